import PyProof.Rows.All
import Wide.All
import OpenK.AllK
import Wide.FinOn
import HandS.ForMost
import HandS.IsInst
import HandS.TupAny
import HandS.TupLe
import HandS.Wide
import HandS.Style
import HandS.SortInts
import HandS.Conv
import HandS.More
import HandS.EndTab
import HandS.EndOwn
import HandS.AnyAll
import HandS.GenOver
import HandS.Evl
import HandS.Walk
import HandS.NoneIn
import HandS.Zip
import HandS.DictComp
import HandS.SetFor
import KE.GoesEnum
import HandS.TupMul
import HandS.Strs
import KE.DataMinMax
import HandS.ForExc
import HandS.ExcIs
import HandS.SetKeys
import PySem.Challenge.RW_friendfoe_k34_first_ties_known
set_option Elab.async false
set_option linter.all false
set_option maxRecDepth 100000
namespace FF
open PySem PySem.Spec PyProof.Rows L2
/-! ### heaps: what is kept -/
/-- all that is tracked, but at d and c, is as it was -/
def Kp (d c : Addr) (H H' : Hp) : Prop := ∀ b o, b ≠ d → b ≠ c → H b = some o → H' b = some o
theorem Kp.refl {d c : Addr} {H : Hp} : Kp d c H H := fun _ _ _ _ h => h
theorem Kp.trans {d c : Addr} {H H1 H2 : Hp} (a : Kp d c H H1) (b : Kp d c H1 H2) : Kp d c H H2 := fun x o h1 h2 h => b x o h1 h2 (a x o h1 h2 h)
theorem Kp.at_d {d c : Addr} {H : Hp} {o : HO} : Kp d c H (upd H d o) := fun b u h1 _ h => by rw [upd_ne h1]; exact h
theorem Kp.at_c {d c : Addr} {H : Hp} {o : HO} : Kp d c H (upd H c o) := fun b u _ h2 h => by rw [upd_ne h2]; exact h
theorem Kp.new {d c p : Addr} {H : Hp} {o : HO} (hp : H p = none) : Kp d c H (upd H p o) := fun b u _ _ h => by rw [upd_ne (ne_of_none h hp)]; exact h
theorem same_new {H : Hp} {p : Addr} {o : HO} (h : H p = none) : Same H (upd H p o) := fun b x e => by
  rw [upd_ne (ne_of_none e h)]
  exact e
theorem Same.kp {d c : Addr} {H H' : Hp} (s : Same H H') : Kp d c H H' := fun b o _ _ h => s b o h
/-! ### defs as they are called -/
def Df (P : Program) (w : World) (K : PySem.W.Frag) (mg : Str → Option Value) (base : Heap) (k : Nat) (x : Str) (ps : List Str) (sp : Sp) : Prop :=
  ∃ (f : Addr) (fd : FuncData), FnOk P w K mg base CX0 k f fd ps sp ∧ mg x = some (.ref f) ∧ PySem.W.keepIn K (.ref f) = true ∧ Binds K fd ps []
/-- built-in names that the module has not taken -/
structure Free (mg : Str → Option Value) : Prop where
  len : mg "len" = none
  int : mg "int" = none
  bool : mg "bool" = none
  str : mg "str" = none
  list : mg "list" = none
  tuple : mg "tuple" = none
  range : mg "range" = none
  isinstance : mg "isinstance" = none
  sum : mg "sum" = none
theorem mod_rng {a m : Int} (h : 0 < m) : 0 ≤ a % m ∧ a % m < m := ⟨Int.emod_nonneg a (by omega), Int.emod_lt_of_pos a h⟩
def topS (i : Nat) : Stmt := PySem.Challenge.pw_friendfoe_k34_first_ties_known.main.body.getD i (.Pass ⟨0, 0, 0, 0⟩)
abbrev s_wall : Stmt := topS 0
abbrev N_wall : List Str := ["k"]
theorem sc_wall : FnScope N_wall ["k"] (defScope s_wall) := ⟨rfl, rfl, rfl, by decide +kernel, rfl, by decide +kernel, by decide +kernel⟩
abbrev s_foes_in : Stmt := topS 2
abbrev N_foes_in : List Str := ["web", "ring", "tie"]
theorem sc_foes_in : FnScope N_foes_in ["web", "ring"] (defScope s_foes_in) := ⟨rfl, rfl, rfl, by decide +kernel, rfl, by decide +kernel, by decide +kernel⟩
abbrev s_ties_around : Stmt := topS 4
abbrev N_ties_around : List Str := ["web", "numbers", "around", "number", "one", "other", "kind"]
theorem sc_ties_around : FnScope N_ties_around ["web", "numbers"] (defScope s_ties_around) := ⟨rfl, rfl, rfl, by decide +kernel, rfl, by decide +kernel, by decide +kernel⟩
abbrev s_walk_from : Stmt := topS 5
abbrev N_walk_from : List Str := ["start", "around", "walk", "reached", "steps", "following", "place", "other", "number"]
theorem sc_walk_from : FnScope N_walk_from ["start", "around"] (defScope s_walk_from) := ⟨rfl, rfl, rfl, by decide +kernel, rfl, by decide +kernel, by decide +kernel⟩
abbrev s_way_to : Stmt := topS 6
abbrev N_way_to : List Str := ["end", "walk", "places", "numbers", "steps", "ahead", "number"]
theorem sc_way_to : FnScope N_way_to ["end", "walk"] (defScope s_way_to) := ⟨rfl, rfl, rfl, by decide +kernel, rfl, by decide +kernel, by decide +kernel⟩
abbrev s_Stand_init : Stmt := inClass (topS 8) 0
abbrev N_Stand_init : List Str := ["self", "many"]
theorem sc_Stand_init : FnScope N_Stand_init ["self", "many"] (defScope s_Stand_init) := ⟨rfl, rfl, rfl, by decide +kernel, rfl, by decide +kernel, by decide +kernel⟩
abbrev s_Stand_come : Stmt := inClass (topS 8) 1
abbrev N_Stand_come : List Str := ["self", "one", "other", "kind", "number", "walk", "places", "ties", "ring"]
theorem sc_Stand_come : FnScope N_Stand_come ["self", "one", "other", "kind"] (defScope s_Stand_come) := ⟨rfl, rfl, rfl, by decide +kernel, rfl, by decide +kernel, by decide +kernel⟩
abbrev s_Stand_back : Stmt := inClass (topS 8) 2
abbrev N_Stand_back : List Str := ["self"]
theorem sc_Stand_back : FnScope N_Stand_back ["self"] (defScope s_Stand_back) := ⟨rfl, rfl, rfl, by decide +kernel, rfl, by decide +kernel, by decide +kernel⟩
abbrev s_Stand_turn : Stmt := inClass (topS 8) 3
abbrev N_Stand_turn : List Str := ["self", "places"]
theorem sc_Stand_turn : FnScope N_Stand_turn ["self", "places"] (defScope s_Stand_turn) := ⟨rfl, rfl, rfl, by decide +kernel, rfl, by decide +kernel, by decide +kernel⟩
abbrev s_Stand_web : Stmt := inClass (topS 8) 4
abbrev N_Stand_web : List Str := ["self"]
theorem sc_Stand_web : FnScope N_Stand_web ["self"] (defScope s_Stand_web) := ⟨rfl, rfl, rfl, by decide +kernel, rfl, by decide +kernel, by decide +kernel⟩
abbrev s_Stand_kept_web : Stmt := inClass (topS 8) 5
abbrev N_Stand_kept_web : List Str := ["self"]
theorem sc_Stand_kept_web : FnScope N_Stand_kept_web ["self"] (defScope s_Stand_kept_web) := ⟨rfl, rfl, rfl, by decide +kernel, rfl, by decide +kernel, by decide +kernel⟩
abbrev s_Stand_sides : Stmt := inClass (topS 8) 6
abbrev N_Stand_sides : List Str := ["self"]
theorem sc_Stand_sides : FnScope N_Stand_sides ["self"] (defScope s_Stand_sides) := ⟨rfl, rfl, rfl, by decide +kernel, rfl, by decide +kernel, by decide +kernel⟩
abbrev s_Stand_between : Stmt := inClass (topS 8) 7
abbrev N_Stand_between : List Str := ["self", "one", "other"]
theorem sc_Stand_between : FnScope N_Stand_between ["self", "one", "other"] (defScope s_Stand_between) := ⟨rfl, rfl, rfl, by decide +kernel, rfl, by decide +kernel, by decide +kernel⟩
abbrev s_Stand_broken : Stmt := inClass (topS 8) 8
abbrev N_Stand_broken : List Str := ["self"]
theorem sc_Stand_broken : FnScope N_Stand_broken ["self"] (defScope s_Stand_broken) := ⟨rfl, rfl, rfl, by decide +kernel, rfl, by decide +kernel, by decide +kernel⟩
abbrev s_first_broken : Stmt := topS 10
abbrev N_first_broken : List Str := ["web", "stand", "number", "one", "other", "kind", "ring"]
theorem sc_first_broken : FnScope N_first_broken ["web"] (defScope s_first_broken) := ⟨rfl, rfl, rfl, by decide +kernel, rfl, by decide +kernel, by decide +kernel⟩
abbrev s_l_cell_at : Stmt := topS 12
abbrev N_l_cell_at : List Str := ["_law_script", "_law_k"]
theorem sc_l_cell_at : FnScope N_l_cell_at ["_law_script", "_law_k"] (defScope s_l_cell_at) := ⟨rfl, rfl, rfl, by decide +kernel, rfl, by decide +kernel, by decide +kernel⟩
abbrev s_l_draw : Stmt := topS 13
abbrev N_l_draw : List Str := ["_law_well", "_law_many_here", "_law_digit", "_law_number"]
theorem sc_l_draw : FnScope N_l_draw ["_law_well", "_law_many_here"] (defScope s_l_draw) := ⟨rfl, rfl, rfl, by decide +kernel, rfl, by decide +kernel, by decide +kernel⟩
abbrev s_l_many : Stmt := topS 14
abbrev N_l_many : List Str := ["_law_script", "_law_well", "_law_great", "_law_many_here", "_law_ties"]
theorem sc_l_many : FnScope N_l_many ["_law_script"] (defScope s_l_many) := ⟨rfl, rfl, rfl, by decide +kernel, rfl, by decide +kernel, by decide +kernel⟩
abbrev s_l_pair : Stmt := topS 15
abbrev N_l_pair : List Str := ["_law_script", "_law_k", "_law_many_here", "_law_pairs", "_law_goes_round", "_law_well", "_law_way", "_law_one", "_law_other_here"]
theorem sc_l_pair : FnScope N_l_pair ["_law_script", "_law_k", "_law_many_here", "_law_pairs", "_law_goes_round"] (defScope s_l_pair) := ⟨rfl, rfl, rfl, by decide +kernel, rfl, by decide +kernel, by decide +kernel⟩
abbrev s_l_groups : Stmt := topS 16
abbrev N_l_groups : List Str := ["_law_many_here", "_law_ties", "_law_first", "_law_side", "_law_tie", "_law_less", "_law_more", "_law_turn", "_law_place"]
theorem sc_l_groups : FnScope N_l_groups ["_law_many_here", "_law_ties"] (defScope s_l_groups) := ⟨rfl, rfl, rfl, by decide +kernel, rfl, by decide +kernel, by decide +kernel⟩
abbrev s_l_whole : Stmt := topS 17
abbrev N_l_whole : List Str := ["_law_thing"]
theorem sc_l_whole : FnScope N_l_whole ["_law_thing"] (defScope s_l_whole) := ⟨rfl, rfl, rfl, by decide +kernel, rfl, by decide +kernel, by decide +kernel⟩
abbrev s_l_ring_right : Stmt := topS 18
abbrev N_l_ring_right : List Str := ["_law_many_here", "_law_ties", "_law_tie", "_law_told", "_law_places", "_law_numbers", "_law_one", "_law_rows", "_law_foes", "_law_k", "_law_number"]
theorem sc_l_ring_right : FnScope N_l_ring_right ["_law_many_here", "_law_ties", "_law_tie", "_law_told"] (defScope s_l_ring_right) := ⟨rfl, rfl, rfl, by decide +kernel, rfl, by decide +kernel, by decide +kernel⟩
abbrev s_l_kind : Stmt := topS 19
abbrev N_l_kind : List Str := ["_law_sides", "_law_pair_here"]
theorem sc_l_kind : FnScope N_l_kind ["_law_sides", "_law_pair_here"] (defScope s_l_kind) := ⟨rfl, rfl, rfl, by decide +kernel, rfl, by decide +kernel, by decide +kernel⟩
abbrev s_l_other : Stmt := topS 20
abbrev N_l_other : List Str := ["_law_kind_here"]
theorem sc_l_other : FnScope N_l_other ["_law_kind_here"] (defScope s_l_other) := ⟨rfl, rfl, rfl, by decide +kernel, rfl, by decide +kernel, by decide +kernel⟩
abbrev s_l_led : Stmt := topS 21
abbrev N_l_led : List Str := ["_law_many_here", "_law_ties", "_law_found", "_law_forest", "_law_first", "_law_k"]
theorem sc_l_led : FnScope N_l_led ["_law_many_here", "_law_ties"] (defScope s_l_led) := ⟨rfl, rfl, rfl, by decide +kernel, rfl, by decide +kernel, by decide +kernel⟩
abbrev s_l_is_told : Stmt := topS 22
abbrev N_l_is_told : List Str := ["_law_many_here", "_law_ties", "_law_number", "_law_told"]
theorem sc_l_is_told : FnScope N_l_is_told ["_law_many_here", "_law_ties", "_law_number", "_law_told"] (defScope s_l_is_told) := ⟨rfl, rfl, rfl, by decide +kernel, rfl, by decide +kernel, by decide +kernel⟩
abbrev s_law : Stmt := topS 23
abbrev N_law : List Str := ["_law_script", "_law_many_here", "_law_count", "_law_goes_round", "_law_sides", "_law_place", "_law_pairs", "_law_k", "_law_ties", "_law_pair_here", "_law_led_here", "_law_number", "_law_told"]
theorem sc_law : FnScope N_law ["_law_script"] (defScope s_law) := ⟨rfl, rfl, rfl, by decide +kernel, rfl, by decide +kernel, by decide +kernel⟩
/-! ### own rules: a list against [] -/
section
variable {X : Cx}
def rEqE (K : PySem.W.Frag) : R2 := fun x y H Q => ∃ (a b : Addr) (xs : List V), x = .ref a ∧ y = .ref b ∧ SqL K H a xs ∧ SqL K H b [] ∧ Q (.bl xs.isEmpty) H
def rNeE (K : PySem.W.Frag) : R2 := fun x y H Q => ∃ (a b : Addr) (xs : List V), x = .ref a ∧ y = .ref b ∧ SqL K H a xs ∧ SqL K H b [] ∧ Q (.bl (!xs.isEmpty)) H
theorem op_eqE (hu : X.A.units < cLine) : OpR X (compareOp .Eq) (rEqE X.K) := by
  intro pins s σ H x y v u Q I rx ry h
  obtain ⟨a, b, xs, rfl, rfl, ha, hb, q⟩ := h
  obtain rfl : v = Value.ref a := rx
  obtain rfl : u = Value.ref b := ry
  obtain ⟨its, r1, p1, _⟩ := I.list ha
  obtain ⟨its2, r2, p2, _⟩ := I.list hb
  cases r2
  cases xs with
  | nil =>
    cases r1
    exact SeqAt.eq_listAt (e := fun _ => true) p1.isList p2.isList rfl hu (fun j h1 _ => absurd h1 (by simp)) ⟨.bl true, H, I, rfl, q⟩
  | cons z zs =>
    cases r1 with
    | cons r t => exact SeqAt.eq_list_lengthsAt p1.isList p2.isList (by simp) hu ⟨.bl false, H, I, rfl, q⟩
theorem op_neE (hu : X.A.units < cLine) : OpR X (compareOp .NotEq) (rNeE X.K) := by
  intro pins s σ H x y v u Q I rx ry h
  obtain ⟨a, b, xs, rfl, rfl, ha, hb, q⟩ := h
  obtain rfl : v = Value.ref a := rx
  obtain rfl : u = Value.ref b := ry
  obtain ⟨its, r1, p1, _⟩ := I.list ha
  obtain ⟨its2, r2, p2, _⟩ := I.list hb
  cases r2
  cases xs with
  | nil =>
    cases r1
    exact SeqAt.RcNeAt.lists (e := fun _ => true) p1.isList p2.isList rfl hu (fun j h1 _ => absurd h1 (by simp)) _ _ _ _ ⟨.bl false, H, I, rfl, q⟩
  | cons z zs =>
    cases r1 with
    | cons r t => exact SeqAt.RcNeAt.lists_lengths p1.isList p2.isList (by simp) hu _ _ _ _ ⟨.bl true, H, I, rfl, q⟩
end
section
variable {P : Program} {w : World} {K : PySem.W.Frag} {mg : Str → Option Value} {base : Heap}
/-! ### webs -/
structure Tie where
  one : Int
  other : Int
  foe : Bool
def kindS : Bool → Str
  | true => "foe"
  | false => "friend"
def TieV (H : Hp) (v : V) (t : Tie) : Prop := ∃ a, v = .ref a ∧ H a = some (.tup [.int t.one, .int t.other, .str (kindS t.foe)])
def TieOk (n : Int) (t : Tie) : Prop := 0 ≤ t.one ∧ t.one < n ∧ 0 ≤ t.other ∧ t.other < n ∧ t.one ≠ t.other
def WebAt (H : Hp) (v : V) (n : Int) (ts : List Tie) : Prop := ∃ a b vs, v = .ref a ∧ H a = some (.tup [.int n, .ref b]) ∧ H b = some (.tup vs) ∧ Paired (TieV H) vs ts
structure WebOk (n : Int) (ts : List Tie) : Prop where
  lo : 1 ≤ n
  hi : n ≤ 40
  few : ts.length ≤ 120
  ok : ∀ t ∈ ts, TieOk n t
/-- tuples stay -/
def Tk (H H' : Hp) : Prop := ∀ b xs, H b = some (.tup xs) → H' b = some (.tup xs)
theorem Tk.trans {H H1 H2 : Hp} (a : Tk H H1) (b : Tk H1 H2) : Tk H H2 := fun x xs h => b x xs (a x xs h)
theorem Same.tk {H H' : Hp} (s : Same H H') : Tk H H' := fun b xs h => s b _ h
theorem tk_lst {H : Hp} {l : Addr} {xs ys : List V} (h : H l = some (.lst xs)) : Tk H (upd H l (.lst ys)) := fun b zs e => by
  rw [upd_ne (ne_of e h (by intro z; cases z))]
  exact e
theorem TieV.tk {H H' : Hp} (k : Tk H H') {v : V} {t : Tie} (h : TieV H v t) : TieV H' v t := by
  obtain ⟨a, rfl, e⟩ := h
  exact ⟨a, rfl, k _ _ e⟩
theorem ties_tk {H H' : Hp} (k : Tk H H') {vs : List V} {ts : List Tie} (h : Paired (TieV H) vs ts) : Paired (TieV H') vs ts := Paired.mono (fun _ _ x => x.tk k) h
theorem WebAt.tk {H H' : Hp} (k : Tk H H') {v : V} {n : Int} {ts : List Tie} (h : WebAt H v n ts) : WebAt H' v n ts := by
  obtain ⟨a, b, vs, rfl, h1, h2, h3⟩ := h
  exact ⟨a, b, vs, rfl, k _ _ h1, k _ _ h2, ties_tk k h3⟩
theorem Kp.mut {d c l : Addr} {H H' : Hp} {o : HO} (k : Kp d c H H') (h : H l = none) : Kp d c H (upd H' l o) := fun b u h1 h2 e => by
  rw [upd_ne (ne_of_none e h)]
  exact k b u h1 h2 e
theorem Paired.at {α β : Type} {F : α → β → Prop} : ∀ {l : List α} {m : List β} {i : Nat} {a : α}, Paired F l m → l[i]? = some a → ∃ b, m[i]? = some b ∧ F a b
  | _, _, _, _, .nil, e => by simp at e
  | _, _, 0, _, .cons r _, e => by simp at e; subst e; exact ⟨_, rfl, r⟩
  | _, _, i + 1, a, .cons _ t, e => by
    obtain ⟨u, h1, h2⟩ := Paired.at (i := i) (a := a) t (by simpa using e)
    exact ⟨u, by simpa using h1, h2⟩
theorem Paired.at' {α β : Type} {F : α → β → Prop} : ∀ {l : List α} {m : List β} {i : Nat} {b : β}, Paired F l m → m[i]? = some b → ∃ a, l[i]? = some a ∧ F a b
  | _, _, _, _, .nil, e => by simp at e
  | _, _, 0, _, .cons r _, e => by simp at e; subst e; exact ⟨_, rfl, r⟩
  | _, _, i + 1, b, .cons _ t, e => by
    obtain ⟨u, h1, h2⟩ := Paired.at' (i := i) (b := b) t (by simpa using e)
    exact ⟨u, by simpa using h1, h2⟩
theorem getI {α : Type} {xs : List α} {i : Int} (h0 : 0 ≤ i) (h1 : i < (xs.length : Int)) : ∃ v, atI xs i = some v ∧ xs[i.toNat]? = some v := by
  obtain ⟨j, rfl⟩ : ∃ j : Nat, i = (j : Int) := ⟨i.toNat, by omega⟩
  have h2 : j < xs.length := by omega
  exact ⟨xs[j], atI_nat (List.getElem?_eq_getElem h2), by rw [Int.toNat_natCast]; exact List.getElem?_eq_getElem h2⟩
theorem other_ne {n a b : Int} (h0 : 0 ≤ a) (h1 : a < n) (g0 : 0 ≤ b) (g1 : b < n - 1) : a ≠ (a + 1 + b) % n := by
  by_cases h : a + 1 + b < n
  · rw [Int.emod_eq_of_lt (by omega) h]
    omega
  · have e : a + 1 + b = (a + 1 + b - n) + 1 * n := by omega
    rw [e, Int.add_mul_emod_self_right, Int.emod_eq_of_lt (by omega) (by omega)]
    omega
theorem pick2 {α : Type} (a b : α) (k : Bool) : atI [a, b] (if k then 1 else 0) = some (if k then b else a) := by
  cases k <;> rfl
theorem Kp.free {d c l : Addr} {H H' : Hp} (k : Kp d c H H') (h : H' l = none) (h1 : l ≠ d) (h2 : l ≠ c) : H l = none := by
  cases e : H l with
  | none => rfl
  | some o =>
    rw [k l o h1 h2 e] at h
    cases h
theorem atI_of {xs : List V} {i : Int} {v : V} (h0 : 0 ≤ i) (e : xs[i.toNat]? = some v) : atI xs i = some v := by
  obtain ⟨j, rfl⟩ : ∃ j : Nat, i = (j : Int) := ⟨i.toNat, by omega⟩
  exact atI_nat (by rw [Int.toNat_natCast] at e; exact e)
theorem atI_ints {xs : List Int} {i : Int} (h0 : 0 ≤ i) (h1 : i < xs.length) : ∃ x ∈ xs, xs[i.toNat]? = some x ∧ atI (xs.map V.int) i = some (.int x) := by
  have h : i.toNat < xs.length := by omega
  exact ⟨xs[i.toNat], List.getElem_mem h, List.getElem?_eq_getElem h, atI_of h0 (by rw [List.getElem?_map, List.getElem?_eq_getElem h]; rfl)⟩
end
/-! ### tuples cut and put together -/
section
variable {X : Cx}
theorem cutV_whole {xs : List V} {lo hi : Option Int} (h : HT.sIx xs.length 0 lo = 0 ∧ HT.sIx xs.length xs.length hi = xs.length) : cutV xs lo hi = xs := by
  unfold cutV
  rw [h.1, h.2]
  simp
def rSlU : V → Option Int → Option Int → Hp → VK → Prop := fun x lo hi H Q => ∃ a xs, x = .ref a ∧ H a = some (.tup xs) ∧ ∀ r H', Same H H' → H' r = some (.tup (cutV xs lo hi)) → Q (.ref r) H'
theorem sl_tupU : SlR X rSlU := by
  intro pins s σ H x v vl vu lo hi sl Q I rx hs pl pu h
  obtain ⟨a, xs, rfl, hx, q⟩ := h
  refine sl_tupA pins s σ H _ v vl vu lo hi sl Q I rx hs pl pu ⟨a, xs, rfl, SqT.of hx, fun hw => ?_, fun _ p np => ?_⟩
  · exact q a H (Same.refl H) (by rw [cutV_whole hw]; exact hx)
  · exact q p _ (same_new np) upd_same
def rCatU : R2 := fun x y H Q => ∃ a b xs ys, x = .ref a ∧ y = .ref b ∧ H a = some (.tup xs) ∧ H b = some (.tup ys) ∧ xs.length + ys.length ≤ 100000 ∧ ∀ r H', Same H H' → H' r = some (.tup (xs ++ ys)) → Q (.ref r) H'
theorem op_catU : OpR X (binaryOp .Add) rCatU := by
  intro pins s σ H x y v u Q I rx ry h
  obtain ⟨a, b, xs, ys, rfl, rfl, ha, hb, hz, q⟩ := h
  refine op_catA pins s σ H _ _ v u Q I rx ry ⟨a, b, xs, ys, rfl, rfl, SqT.of ha, SqT.of hb, Evl.sz_of hz, fun e => ?_, fun _ e => ?_, fun _ _ p np => ?_⟩
  · subst e
    exact q b H (Same.refl H) hb
  · subst e
    exact q a H (Same.refl H) (by rw [List.append_nil]; exact ha)
  · exact q p _ (same_new np) upd_same
end
/-! ### things of any kind -/
/-- its kind is known -/
def Kn (H : Hp) : V → Prop
  | .non => True
  | .bl _ => True
  | .int _ => True
  | .str _ => True
  | .ref a => (∃ xs, H a = some (.lst xs)) ∨ (∃ xs, H a = some (.tup xs)) ∨ ∃ kvs, H a = some (.dK kvs)
  | _ => False
def isI : V → Bool
  | .int _ => true
  | .bl _ => true
  | _ => false
def isB : V → Bool
  | .bl _ => true
  | _ => false
def isW : V → Bool
  | .int _ => true
  | _ => false
def isT (H : Hp) : V → Bool
  | .ref a => match H a with
    | some (.tup _) => true
    | _ => false
  | _ => false
section
variable {K : PySem.W.Frag} {H : Hp}
theorem kn_int {v : V} (h : Kn H v) : ∃ t, TyX K H v t ∧ PySem.W.kitOne K t (.type "int") = some (isI v) := by
  cases v with
  | non => exact ⟨_, .base .non, kit_ty (r := false) (by decide +kernel)⟩
  | bl b => exact ⟨_, .base (.bl b), kit_ty (r := true) (by decide +kernel)⟩
  | int i => exact ⟨_, .base (.int i), kit_ty (r := true) (by decide +kernel)⟩
  | str x => exact ⟨_, .base (.str x), kit_ty (r := false) (by decide +kernel)⟩
  | ref a =>
    rcases h with ⟨xs, h⟩ | ⟨xs, h⟩ | ⟨xs, h⟩
    · exact ⟨_, .base (.lst h), kit_ty (r := false) (by decide +kernel)⟩
    · exact ⟨_, .base (.tup h), kit_ty (r := false) (by decide +kernel)⟩
    · exact ⟨_, .base (.dK h), kit_ty (r := false) (by decide +kernel)⟩
  | byt b => exact h.elim
  | flt b => exact h.elim
  | ty n => exact h.elim
theorem kn_bool {v : V} (h : Kn H v) : ∃ t, TyX K H v t ∧ PySem.W.kitOne K t (.type "bool") = some (isB v) := by
  cases v with
  | non => exact ⟨_, .base .non, kit_ty (r := false) (by decide +kernel)⟩
  | bl b => exact ⟨_, .base (.bl b), kit_ty (r := true) (by decide +kernel)⟩
  | int i => exact ⟨_, .base (.int i), kit_ty (r := false) (by decide +kernel)⟩
  | str x => exact ⟨_, .base (.str x), kit_ty (r := false) (by decide +kernel)⟩
  | ref a =>
    rcases h with ⟨xs, h⟩ | ⟨xs, h⟩ | ⟨xs, h⟩
    · exact ⟨_, .base (.lst h), kit_ty (r := false) (by decide +kernel)⟩
    · exact ⟨_, .base (.tup h), kit_ty (r := false) (by decide +kernel)⟩
    · exact ⟨_, .base (.dK h), kit_ty (r := false) (by decide +kernel)⟩
  | byt b => exact h.elim
  | flt b => exact h.elim
  | ty n => exact h.elim
theorem kn_tup {v : V} (h : Kn H v) : ∃ t, TyX K H v t ∧ PySem.W.kitOne K t (.type "tuple") = some (isT H v) := by
  cases v with
  | non => exact ⟨_, .base .non, kit_ty (r := false) (by decide +kernel)⟩
  | bl b => exact ⟨_, .base (.bl b), kit_ty (r := false) (by decide +kernel)⟩
  | int i => exact ⟨_, .base (.int i), kit_ty (r := false) (by decide +kernel)⟩
  | str x => exact ⟨_, .base (.str x), kit_ty (r := false) (by decide +kernel)⟩
  | ref a =>
    unfold isT
    rcases h with ⟨xs, h⟩ | ⟨xs, h⟩ | ⟨xs, h⟩
    · exact ⟨_, .base (.lst h), by simp only [h]; exact kit_ty (r := false) (by decide +kernel)⟩
    · exact ⟨_, .base (.tup h), by simp only [h]; exact kit_ty (r := true) (by decide +kernel)⟩
    · exact ⟨_, .base (.dK h), by simp only [h]; exact kit_ty (r := false) (by decide +kernel)⟩
  | byt b => exact h.elim
  | flt b => exact h.elim
  | ty n => exact h.elim
theorem isT_at {v : V} (h : isT H v = true) : ∃ a xs, v = .ref a ∧ H a = some (.tup xs) := by
  cases v with
  | ref a =>
    unfold isT at h
    cases e : H a with
    | none => simp only [e] at h; cases h
    | some o =>
      cases o with
      | tup xs => exact ⟨a, xs, rfl, e⟩
      | _ => simp only [e] at h; cases h
  | _ => cases h
theorem isT_of {a : Addr} {xs : List V} (h : H a = some (.tup xs)) : isT H (.ref a) = true := by
  unfold isT
  simp only [h]
end
section
variable {P : Program} {w : World} {K : PySem.W.Frag} {mg : Str → Option Value} {base : Heap}
def spWhole : Sp := fun vs H Q _ => ∃ v, vs = [v] ∧ Kn H v ∧ Q (.bl (isW v)) H
theorem and_whole {v : V} : (isI v && !isB v) = isW v := by cases v <;> rfl
end
/-! ### ties, walks, parts: the mathematics -/
def Adj (ts : List Tie) (a b : Int) (foe : Bool) : Prop := ∃ t ∈ ts, t.foe = foe ∧ ((t.one = a ∧ t.other = b) ∨ (t.one = b ∧ t.other = a))
theorem Adj.symm {ts : List Tie} {a b : Int} {k : Bool} (h : Adj ts a b k) : Adj ts b a k := by
  obtain ⟨t, ht, e, h⟩ := h
  exact ⟨t, ht, e, h.symm⟩
/-- a walk with so many foes, even or odd -/
inductive RP (ts : List Tie) (a : Int) : Int → Bool → Prop
  | nil : RP ts a a false
  | step {b c : Int} {p k : Bool} : RP ts a b p → Adj ts b c k → RP ts a c (p ^^ k)
def Rch (ts : List Tie) (a b : Int) : Prop := ∃ p, RP ts a b p
theorem RP.trans {ts : List Tie} {a b c : Int} {p q : Bool} (h : RP ts a b p) (g : RP ts b c q) : RP ts a c (p ^^ q) := by
  induction g with
  | nil =>
    rw [Bool.xor_false]
    exact h
  | step _ k ih =>
    rw [← Bool.xor_assoc]
    exact ih.step k
theorem RP.one {ts : List Tie} {a b : Int} {k : Bool} (h : Adj ts a b k) : RP ts a b k := by
  have q := RP.nil.step h
  rw [Bool.false_xor] at q
  exact q
theorem RP.symm {ts : List Tie} {a b : Int} {p : Bool} (h : RP ts a b p) : RP ts b a p := by
  induction h with
  | nil => exact .nil
  | step _ k ih =>
    have q := (RP.one k.symm).trans ih
    rw [Bool.xor_comm] at q
    exact q
theorem Rch.refl {ts : List Tie} {a : Int} : Rch ts a a := ⟨_, .nil⟩
theorem Rch.symm {ts : List Tie} {a b : Int} (h : Rch ts a b) : Rch ts b a := by
  obtain ⟨p, h⟩ := h
  exact ⟨p, h.symm⟩
theorem Rch.trans {ts : List Tie} {a b c : Int} (h : Rch ts a b) (g : Rch ts b c) : Rch ts a c := by
  obtain ⟨p, h⟩ := h
  obtain ⟨q, g⟩ := g
  exact ⟨_, h.trans g⟩
theorem Rch.adj {ts : List Tie} {a b : Int} {k : Bool} (h : Adj ts a b k) : Rch ts a b := ⟨_, RP.one h⟩
theorem Rch.ind {ts : List Tie} {a b : Int} (C : Int → Prop) (h : Rch ts a b) (h0 : C a) (hs : ∀ x y k, C x → Adj ts x y k → C y) : C b := by
  obtain ⟨p, h⟩ := h
  induction h with
  | nil => exact h0
  | step _ k ih => exact hs _ _ _ ih k
theorem Adj.rng {ts : List Tie} {n a b : Int} {k : Bool} (ok : ∀ t ∈ ts, TieOk n t) (h : Adj ts a b k) : 0 ≤ b ∧ b < n := by
  obtain ⟨t, ht, _, h⟩ := h
  obtain ⟨h1, h2, h3, h4, _⟩ := ok t ht
  rcases h with ⟨e1, e2⟩ | ⟨e1, e2⟩
  · omega
  · omega
theorem Rch.rng {ts : List Tie} {n a b : Int} (ok : ∀ t ∈ ts, TieOk n t) (ha : 0 ≤ a ∧ a < n) (h : Rch ts a b) : 0 ≤ b ∧ b < n := h.ind (fun x => 0 ≤ x ∧ x < n) ha fun _ _ _ _ k => k.rng ok
def leader (ts : List Tie) (s : Int) : Prop := ∀ q, Rch ts s q → s ≤ q
/-- rising lists of the same numbers are one -/
theorem rising_ext : ∀ {xs ys : List Int}, xs.Pairwise (· < ·) → ys.Pairwise (· < ·) → (∀ z, z ∈ xs ↔ z ∈ ys) → xs = ys
  | [], [], _, _, _ => rfl
  | [], y :: ys, _, _, h => by have := (h y).mpr (by simp); simp at this
  | x :: xs, [], _, _, h => by have := (h x).mp (by simp); simp at this
  | x :: xs, y :: ys, hx, hy, h => by
    rw [List.pairwise_cons] at hx hy
    have e : x = y := by
      have h1 := (h x).mp (by simp)
      have h2 := (h y).mpr (by simp)
      rcases List.mem_cons.mp h1 with e | e
      · exact e
      · rcases List.mem_cons.mp h2 with e' | e'
        · exact e'.symm
        · have := hx.1 y e'
          have := hy.1 x e
          omega
    subst e
    rw [rising_ext hx.2 hy.2 fun z => ?_]
    constructor
    · intro hz
      rcases List.mem_cons.mp ((h z).mp (List.mem_cons_of_mem _ hz)) with e | e
      · have := hx.1 z hz
        omega
      · exact e
    · intro hz
      rcases List.mem_cons.mp ((h z).mpr (List.mem_cons_of_mem _ hz)) with e | e
      · have := hy.1 z hz
        omega
      · exact e
/-- 0, 1, .., n - 1 -/
def rng (n : Nat) : List Int := (List.range n).map fun (i : Nat) => (i : Int)
theorem mem_rng {n : Nat} {z : Int} : z ∈ rng n ↔ 0 ≤ z ∧ z < n := by
  unfold rng
  rw [List.mem_map]
  constructor
  · rintro ⟨i, hi, rfl⟩
    have := List.mem_range.mp hi
    omega
  · rintro ⟨h1, h2⟩
    exact ⟨z.toNat, List.mem_range.mpr (by omega), by omega⟩
theorem rng_rising (n : Nat) : (rng n).Pairwise (· < ·) := by
  unfold rng
  rw [List.pairwise_map]
  exact List.pairwise_lt_range.imp (by intro a b h; omega)
theorem rng_succ (n : Nat) : rng (n + 1) = rng n ++ [(n : Int)] := by
  unfold rng
  rw [List.range_succ, List.map_append]
  rfl
theorem rng_length (n : Nat) : (rng n).length = n := by
  unfold rng
  rw [List.length_map, List.length_range]
open Classical in
/-- the part of s -/
noncomputable def partOf (ts : List Tie) (n : Nat) (s : Int) : List Int := (rng n).filter fun p => decide (Rch ts s p)
open Classical in
/-- the parts by their first places, below i -/
noncomputable def partsTo (ts : List Tie) (n i : Nat) : List (List Int) := ((rng i).filter fun s => decide (leader ts s)).map (partOf ts n)
open Classical in
theorem partsTo_succ (ts : List Tie) (n i : Nat) : partsTo ts n (i + 1) = partsTo ts n i ++ (if leader ts i then [partOf ts n i] else []) := by
  unfold partsTo
  rw [rng_succ, List.filter_append, List.map_append]
  congr 1
  by_cases h : leader ts (i : Int)
  · rw [if_pos h, List.filter_cons, if_pos (decide_eq_true h)]
    rfl
  · rw [if_neg h, List.filter_cons, if_neg (by simpa using h)]
    rfl
theorem part_rising (ts : List Tie) (n : Nat) (s : Int) : (partOf ts n s).Pairwise (· < ·) := (rng_rising n).filter _
theorem mem_part {ts : List Tie} {n : Nat} {s z : Int} : z ∈ partOf ts n s ↔ (0 ≤ z ∧ z < n) ∧ Rch ts s z := by
  unfold partOf
  rw [List.mem_filter, mem_rng]
  simp
/-! ### the least place that each comes to, gone over again and again -/
def relax (f : Int → Int) (t : Tie) : Int → Int := fun x => if x = t.one ∨ x = t.other then min (f t.one) (f t.other) else f x
def rounds (ts : List Tie) : Nat → Int → Int
  | 0 => fun x => x
  | r + 1 => ts.foldl relax (rounds ts r)
theorem relax_le (f : Int → Int) (t : Tie) (x : Int) : relax f t x ≤ f x := by
  unfold relax
  split
  · rename_i h
    rcases h with rfl | rfl <;> omega
  · exact Int.le_refl _
theorem fold_le : ∀ (l : List Tie) (f : Int → Int) (x : Int), l.foldl relax f x ≤ f x
  | [], _, _ => Int.le_refl _
  | t :: l, f, x => Int.le_trans (fold_le l (relax f t) x) (relax_le f t x)
theorem fold_tie : ∀ (l : List Tie) (f : Int → Int) (t : Tie), t ∈ l → l.foldl relax f t.one ≤ min (f t.one) (f t.other) ∧ l.foldl relax f t.other ≤ min (f t.one) (f t.other)
  | t' :: l, f, t, h => by
    rcases List.mem_cons.mp h with e | e
    · subst e
      have h1 := fold_le l (relax f t) t.one
      have h2 := fold_le l (relax f t) t.other
      have e1 : relax f t t.one = min (f t.one) (f t.other) := by unfold relax; rw [if_pos (.inl rfl)]
      have e2 : relax f t t.other = min (f t.one) (f t.other) := by unfold relax; rw [if_pos (.inr rfl)]
      rw [e1] at h1
      rw [e2] at h2
      exact ⟨h1, h2⟩
    · have ih := fold_tie l (relax f t') t e
      have h1 := relax_le f t' t.one
      have h2 := relax_le f t' t.other
      exact ⟨Int.le_trans ih.1 (by omega), Int.le_trans ih.2 (by omega)⟩
theorem fold_rch {ts : List Tie} : ∀ (l : List Tie) (f : Int → Int), (∀ t ∈ l, t ∈ ts) → (∀ x, Rch ts x (f x)) → ∀ x, Rch ts x (l.foldl relax f x)
  | [], _, _, h => h
  | t :: l, f, hl, h => fold_rch l (relax f t) (fun t' ht => hl t' (List.mem_cons_of_mem _ ht)) fun x => by
    have ad : Rch ts t.one t.other := Rch.adj (k := t.foe) ⟨t, hl t (by simp), rfl, .inl ⟨rfl, rfl⟩⟩
    unfold relax
    split
    · rename_i hx
      have key : Rch ts x t.one ∧ Rch ts x t.other := by
        rcases hx with e | e <;> subst e
        · exact ⟨Rch.refl, ad⟩
        · exact ⟨ad.symm, Rch.refl⟩
      rcases Int.le_total (f t.one) (f t.other) with q | q
      · rw [Int.min_eq_left q]
        exact key.1.trans (h _)
      · rw [Int.min_eq_right q]
        exact key.2.trans (h _)
    · exact h x
theorem rounds_rch (ts : List Tie) : ∀ (r : Nat) (x : Int), Rch ts x (rounds ts r x)
  | 0, _ => Rch.refl
  | r + 1, x => fold_rch ts _ (fun _ h => h) (rounds_rch ts r) x
theorem filter_lt {p q : Int → Bool} : ∀ {l : List Int}, (∀ x ∈ l, q x = true → p x = true) → (∃ x ∈ l, p x = true ∧ q x = false) → (l.filter q).length < (l.filter p).length
  | [], _, ⟨x, hx, _⟩ => by simp at hx
  | y :: l, hi, ⟨x, hx, hp, hq⟩ => by
    have mono : (l.filter q).length ≤ (l.filter p).length := by
      have hi' : ∀ x ∈ l, q x = true → p x = true := fun x h => hi x (List.mem_cons_of_mem _ h)
      clear hi hx hp hq
      induction l with
      | nil => exact Nat.le_refl _
      | cons z l ih =>
        have ih := ih fun x h => hi' x (List.mem_cons_of_mem _ h)
        rw [List.filter_cons, List.filter_cons]
        have hz := hi' z (by simp)
        cases h1 : q z <;> cases h2 : p z <;> simp_all <;> omega
    rw [List.filter_cons, List.filter_cons]
    rcases List.mem_cons.mp hx with e | e
    · subst e
      rw [hq, hp]
      simp
      omega
    · have ih := filter_lt (l := l) (fun x h => hi x (List.mem_cons_of_mem _ h)) ⟨x, e, hp, hq⟩
      have hy := hi y (by simp)
      cases h1 : q y <;> cases h2 : p y <;> simp_all <;> omega
open Classical in
/-- behind as many rounds as there are places each has its part's least place -/
theorem rounds_least {ts : List Tie} {n : Nat} (ok : ∀ t ∈ ts, TieOk n t) {m p : Int} (hm : leader ts m) (h0 : 0 ≤ m ∧ m < n) (hp : Rch ts m p) : rounds ts n p = m := by
  have ge : ∀ r x, Rch ts m x → m ≤ rounds ts r x := fun r x hx => hm _ (hx.trans (rounds_rch ts r x))
  have mono : ∀ r x, rounds ts (r + 1) x ≤ rounds ts r x := fun r x => fold_le ts _ x
  have atm : ∀ r, rounds ts r m = m := fun r => by
    have h1 := ge r m Rch.refl
    have h2 : rounds ts r m ≤ m := by
      induction r with
      | zero => exact Int.le_refl _
      | succ r ih => exact Int.le_trans (mono r m) (ih (ge r m Rch.refl))
    omega
  have cnt : ∀ r, ((rng n).filter fun x => decide (Rch ts m x ∧ rounds ts r x ≠ m)).length ≤ n - r := fun r => by
    induction r with
    | zero =>
      refine Nat.le_trans (List.length_filter_le _ _) ?_
      rw [rng_length]
      omega
    | succ r ih =>
      by_cases hex : ∃ x, Rch ts m x ∧ rounds ts r x ≠ m
      · obtain ⟨x, hx, hne⟩ := hex
        -- an edge over which it comes
        have edge : ∃ a b k, Rch ts m a ∧ rounds ts r a = m ∧ Adj ts a b k ∧ rounds ts r b ≠ m := by
          by_cases hn : ∃ a b k, Rch ts m a ∧ rounds ts r a = m ∧ Adj ts a b k ∧ rounds ts r b ≠ m
          · exact hn
          · exfalso
            refine hne (hx.ind (fun y => Rch ts m y ∧ rounds ts r y = m) ⟨Rch.refl, atm r⟩ fun a b k ha k' => ⟨ha.1.trans (Rch.adj k'), ?_⟩).2
            by_cases hb : rounds ts r b = m
            · exact hb
            · exact absurd ⟨a, b, k, ha.1, ha.2, k', hb⟩ hn
        obtain ⟨a, b, k, ha, ha2, hab, hb⟩ := edge
        have hmb : Rch ts m b := ha.trans (Rch.adj hab)
        have hb' : rounds ts (r + 1) b = m := by
          have h1 := ge (r + 1) b hmb
          obtain ⟨t, ht, _, h⟩ := hab
          have ft := fold_tie ts (rounds ts r) t ht
          have h2 : rounds ts (r + 1) b ≤ m := by
            rcases h with ⟨e1, e2⟩ | ⟨e1, e2⟩
            · have q := ft.2
              rw [e1, e2, ha2] at q
              exact Int.le_trans q (by omega)
            · have q := ft.1
              rw [e1, e2, ha2] at q
              exact Int.le_trans q (by omega)
          omega
        have lt := filter_lt (p := fun x => decide (Rch ts m x ∧ rounds ts r x ≠ m)) (q := fun x => decide (Rch ts m x ∧ rounds ts (r + 1) x ≠ m)) (l := rng n) (fun x _ hq => by
          have hq := of_decide_eq_true hq
          refine decide_eq_true ⟨hq.1, fun z => hq.2 ?_⟩
          have h1 := ge (r + 1) x hq.1
          have h2 := mono r x
          omega) ⟨b, mem_rng.mpr (hmb.rng ok h0), decide_eq_true ⟨hmb, hb⟩, decide_eq_false fun z => z.2 hb'⟩
        omega
      · have e : (rng n).filter (fun x => decide (Rch ts m x ∧ rounds ts (r + 1) x ≠ m)) = [] := by
          rw [List.filter_eq_nil_iff]
          intro x _ hq
          have hq := of_decide_eq_true hq
          refine hex ⟨x, hq.1, fun z => hq.2 ?_⟩
          have h1 := ge (r + 1) x hq.1
          have h2 := mono r x
          omega
        rw [e]
        exact Nat.zero_le _
  have c := cnt n
  rw [Nat.sub_self] at c
  have e := List.eq_nil_of_length_eq_zero (Nat.le_zero.mp c)
  by_cases hne : rounds ts n p = m
  · exact hne
  · rw [List.filter_eq_nil_iff] at e
    exact absurd (decide_eq_true ⟨hp, hne⟩) (e p (mem_rng.mpr (hp.rng ok h0)))
open Classical in
/-- each has a least place -/
theorem has_leader {ts : List Tie} {n : Nat} (ok : ∀ t ∈ ts, TieOk n t) {p : Int} (h0 : 0 ≤ p ∧ p < n) : ∃ m, leader ts m ∧ (0 ≤ m ∧ m < n) ∧ Rch ts m p := by
  have key : ∀ (k : Nat) (x : Int), x = k → Rch ts p x → ∃ m, leader ts m ∧ (0 ≤ m ∧ m < n) ∧ Rch ts m p := by
    intro k
    induction k using Nat.strongRecOn with
    | ind k ih =>
      intro x hx hr
      have hxr := hr.rng ok h0
      by_cases hl : leader ts x
      · exact ⟨x, hl, hxr, hr.symm⟩
      · have hl' : ∃ q, Rch ts x q ∧ q < x := by
          by_cases h : ∃ q, Rch ts x q ∧ q < x
          · exact h
          · exfalso
            refine hl fun q hq => ?_
            by_cases h' : q < x
            · exact absurd ⟨q, hq, h'⟩ h
            · omega
        obtain ⟨q, hq, hlt⟩ := hl'
        have hqr := hq.rng ok hxr
        exact ih q.toNat (by omega) q (by omega) (hr.trans hq)
  exact key p.toNat p (by omega) Rch.refl
/-! ### rows of numbers as data -/
def IntsV (H : Hp) (v : V) (xs : List Int) : Prop := ∃ b, v = .ref b ∧ H b = some (.tup (xs.map V.int))
theorem IntsV.tk {H H' : Hp} (k : Tk H H') {v : V} {xs : List Int} (h : IntsV H v xs) : IntsV H' v xs := by
  obtain ⟨a, rfl, e⟩ := h
  exact ⟨a, rfl, k _ _ e⟩
def intsD (xs : List Int) : PyData := .tuple (xs.map PyData.int)
section
variable {K : PySem.W.Frag} {H : Hp}
theorem dp_ints : ∀ (xs : List Int), DpAll K H (xs.map V.int) (xs.map PyData.int)
  | [] => .nil
  | x :: xs => .cons (.int x) (dp_ints xs)
theorem IntsV.dp {v : V} {xs : List Int} (h : IntsV H v xs) : Dp K H v (intsD xs) := by
  obtain ⟨b, rfl, e⟩ := h
  exact .tup (SqT.of e) (dp_ints xs)
end
theorem lay_ints : ∀ xs : List Int, PyData.canLayAll0 (xs.map PyData.int) = true
  | [] => by simp [PyData.canLayAll0]
  | x :: xs => by simp [PyData.canLayAll0, PyData.canLay0, lay_ints xs]
theorem deep_ints : ∀ xs : List Int, PyData.depthAll (xs.map PyData.int) = 0
  | [] => by simp [PyData.depthAll]
  | x :: xs => by simp [PyData.depthAll, PyData.depth, deep_ints xs]
theorem lay_intsD (xs : List Int) : (intsD xs).canLay0 = true := by
  unfold intsD
  rw [PyData.canLay0]
  exact lay_ints xs
theorem deep_intsD (xs : List Int) : (intsD xs).depth = 1 := by
  unfold intsD
  rw [PyData.depth, deep_ints]
theorem shaped_intsD (xs : List Int) : SeqAt.shaped (intsD xs) = true := by
  unfold SeqAt.shaped
  rw [lay_intsD, deep_intsD]
  rfl
theorem eqv_nil (xs : List Int) : PyData.eqv (intsD xs) (intsD []) = xs.isEmpty := by
  unfold intsD
  rw [PyData.eqv]
  cases xs <;> rfl

theorem Same.mut {H H' : Hp} {a : Addr} {o : HO} (s : Same H H') (h : H a = none) : Same H (upd H' a o) := fun b x e => by
  rw [upd_ne (ne_of_none e h)]
  exact s b x e
theorem at0 {α : Type} (x : α) (xs : List α) : atI (x :: xs) 0 = some x := atI_nat (j := 0) rfl
/-! ### stems (mathematics) -/
theorem Rch.mono {ts ts' : List Tie} (h : ∀ t ∈ ts, t ∈ ts') {a b : Int} (r : Rch ts a b) : Rch ts' a b :=
  r.ind (fun x => Rch ts' a x) .refl fun x y k hx ad => by
    obtain ⟨t, ht, e⟩ := ad
    exact hx.trans (Rch.adj (k := k) ⟨t, h t ht, e⟩)
theorem rch_pq {ts : List Tie} {t : Tie} {p q : Int} (h : (p = t.one ∧ q = t.other) ∨ (p = t.other ∧ q = t.one)) : Rch (ts ++ [t]) p q := by
  refine Rch.adj (k := t.foe) ⟨t, List.mem_append_right _ (by simp), rfl, ?_⟩
  rcases h with ⟨h1, h2⟩ | ⟨h1, h2⟩
  · exact .inl ⟨h1.symm, h2.symm⟩
  · exact .inr ⟨h2.symm, h1.symm⟩
theorem rch_snoc {ts : List Tie} {t : Tie} {p q : Int} (h : (p = t.one ∧ q = t.other) ∨ (p = t.other ∧ q = t.one)) {a b : Int} : Rch (ts ++ [t]) a b ↔ Rch ts a b ∨ (Rch ts a p ∧ Rch ts q b) ∨ (Rch ts a q ∧ Rch ts p b) := by
  have up : ∀ {x y : Int}, Rch ts x y → Rch (ts ++ [t]) x y := fun r => r.mono fun t ht => List.mem_append_left _ ht
  constructor
  · intro r
    refine r.ind (fun x => Rch ts a x ∨ (Rch ts a p ∧ Rch ts q x) ∨ (Rch ts a q ∧ Rch ts p x)) (.inl .refl) fun x y k hx ad => ?_
    obtain ⟨t', ht, e1, e2⟩ := ad
    rcases List.mem_append.mp ht with ht | ht
    · have st : Rch ts x y := Rch.adj (k := k) ⟨t', ht, e1, e2⟩
      rcases hx with h1 | ⟨h1, h2⟩ | ⟨h1, h2⟩
      · exact .inl (h1.trans st)
      · exact .inr (.inl ⟨h1, h2.trans st⟩)
      · exact .inr (.inr ⟨h1, h2.trans st⟩)
    · rw [List.mem_singleton] at ht
      subst ht
      have xy : (x = p ∧ y = q) ∨ (x = q ∧ y = p) := by
        rcases e2 with ⟨e2, e3⟩ | ⟨e2, e3⟩ <;> rcases h with ⟨h1, h2⟩ | ⟨h1, h2⟩
        · exact .inl ⟨by omega, by omega⟩
        · exact .inr ⟨by omega, by omega⟩
        · exact .inr ⟨by omega, by omega⟩
        · exact .inl ⟨by omega, by omega⟩
      rcases xy with ⟨rfl, rfl⟩ | ⟨rfl, rfl⟩
      · rcases hx with h1 | ⟨h1, h2⟩ | ⟨h1, h2⟩
        · exact .inr (.inl ⟨h1, .refl⟩)
        · exact .inr (.inl ⟨h1, .refl⟩)
        · exact .inl h1
      · rcases hx with h1 | ⟨h1, h2⟩ | ⟨h1, h2⟩
        · exact .inr (.inr ⟨h1, .refl⟩)
        · exact .inl h1
        · exact .inr (.inr ⟨h1, .refl⟩)
  · rintro (h1 | ⟨h1, h2⟩ | ⟨h1, h2⟩)
    · exact up h1
    · exact (up h1).trans ((rch_pq h).trans (up h2))
    · exact (up h1).trans ((rch_pq h).symm.trans (up h2))
theorem rch_nil {a b : Int} (h : Rch [] a b) : a = b := h.ind (fun x => a = x) rfl fun x y k _ ad => by
  obtain ⟨t, ht, _⟩ := ad
  simp at ht
def tieN (ts : List Tie) (k : Nat) : Tie := ts.getD k ⟨0, 0, false⟩
theorem tieN_of {ts : List Tie} {k : Nat} {t : Tie} (h : ts[k]? = some t) : tieN ts k = t := by
  unfold tieN
  rw [List.getD_eq_getElem?_getD, h]
  rfl
open Classical in
noncomputable def stemB (ts : List Tie) (k : Nat) : Bool := decide (¬ Rch (ts.take k) (tieN ts k).one (tieN ts k).other)
noncomputable def stemsTo (ts : List Tie) (k : Nat) : List Int := (rng k).filter fun i => stemB ts i.toNat
theorem stemsTo_succ (ts : List Tie) (k : Nat) : stemsTo ts (k + 1) = stemsTo ts k ++ (if stemB ts k = true then [(k : Int)] else []) := by
  unfold stemsTo
  rw [rng_succ, List.filter_append, List.filter_cons, Int.toNat_natCast]
  rfl
theorem stemsTo_len (ts : List Tie) (k : Nat) : (stemsTo ts k).length ≤ k := by
  unfold stemsTo
  have := List.length_filter_le (fun i => stemB ts i.toNat) (rng k)
  rw [rng_length] at this
  exact this
open Classical in
theorem stem_iff {ts : List Tie} {k : Nat} {t : Tie} (h : ts[k]? = some t) : stemB ts k = true ↔ ¬ Rch (ts.take k) t.one t.other := by
  unfold stemB
  rw [tieN_of h]
  exact decide_eq_true_iff
theorem take_snoc {α : Type} {ts : List α} {k : Nat} {t : α} (h : ts[k]? = some t) : ts.take (k + 1) = ts.take k ++ [t] := by
  rw [List.take_add_one, h]
  rfl
/-- labels: alike just where ties lead -/
def Lab (ts : List Tie) (n : Nat) (g : Int → Int) : Prop := ∀ i j : Int, 0 ≤ i → i < n → 0 ≤ j → j < n → (g i = g j ↔ Rch ts i j)
def mrg (g : Int → Int) (old new : Int) : Int → Int := fun x => if g x = old then new else g x
theorem lab_nil (n : Nat) : Lab [] n (fun i => i) := fun i j _ _ _ _ => ⟨fun h => by rw [show i = j from h]; exact .refl, fun h => rch_nil h⟩
theorem lab_same {ts : List Tie} {n : Nat} {g : Int → Int} {t : Tie} (h : Lab ts n g) (ok : TieOk n t) (e : g t.one = g t.other) : Lab (ts ++ [t]) n g := fun i j i0 i1 j0 j1 => by
  obtain ⟨o1, o2, o3, o4, _⟩ := ok
  have r : Rch ts t.one t.other := (h _ _ o1 o2 o3 o4).mp e
  rw [rch_snoc (.inl ⟨rfl, rfl⟩), h i j i0 i1 j0 j1]
  constructor
  · exact .inl
  · rintro (h1 | ⟨h1, h2⟩ | ⟨h1, h2⟩)
    · exact h1
    · exact h1.trans (r.trans h2)
    · exact h1.trans (r.symm.trans h2)
theorem lab_step {ts : List Tie} {n : Nat} {g : Int → Int} {t : Tie} {p q : Int} (h : Lab ts n g) (ok : TieOk n t) (e : (p = t.one ∧ q = t.other) ∨ (p = t.other ∧ q = t.one)) : Lab (ts ++ [t]) n (mrg g (g p) (g q)) := fun i j i0 i1 j0 j1 => by
  have pr : (0 ≤ p ∧ p < n) ∧ (0 ≤ q ∧ q < n) := by
    obtain ⟨o1, o2, o3, o4, _⟩ := ok
    rcases e with ⟨rfl, rfl⟩ | ⟨rfl, rfl⟩
    · exact ⟨⟨o1, o2⟩, o3, o4⟩
    · exact ⟨⟨o3, o4⟩, o1, o2⟩
  obtain ⟨⟨p0, p1⟩, q0, q1⟩ := pr
  rw [rch_snoc e]
  unfold mrg
  have ip := h i p i0 i1 p0 p1
  have jp := h j p j0 j1 p0 p1
  have iq := h i q i0 i1 q0 q1
  have jq := h j q j0 j1 q0 q1
  have ij := h i j i0 i1 j0 j1
  by_cases hi : g i = g p <;> by_cases hj : g j = g p
  · rw [if_pos hi, if_pos hj]
    exact ⟨fun _ => .inl (ij.mp (hi.trans hj.symm)), fun _ => rfl⟩
  · rw [if_pos hi, if_neg hj]
    constructor
    · intro z
      exact .inr (.inl ⟨ip.mp hi, (jq.mp z.symm).symm⟩)
    · rintro (z | ⟨_, z⟩ | ⟨_, z⟩)
      · exact absurd ((ij.mpr z).symm.trans hi) hj
      · exact (jq.mpr z.symm).symm
      · exact absurd (jp.mpr z.symm) hj
  · rw [if_neg hi, if_pos hj]
    constructor
    · intro z
      exact .inr (.inr ⟨iq.mp z, (jp.mp hj).symm⟩)
    · rintro (z | ⟨z, _⟩ | ⟨z, _⟩)
      · exact absurd ((ij.mpr z).trans hj) hi
      · exact absurd (ip.mpr z) hi
      · exact iq.mpr z
  · rw [if_neg hi, if_neg hj]
    constructor
    · intro z
      exact .inl (ij.mp z)
    · rintro (z | ⟨z, _⟩ | ⟨_, z⟩)
      · exact ij.mpr z
      · exact absurd (ip.mpr z) hi
      · exact absurd (jp.mpr z.symm) hj
/-- heads: labels that are places of their own; how many -/
structure Heads (ts : List Tie) (n i : Nat) (g : Int → Int) : Prop where
  lab : Lab (ts.take i) n g
  rng : ∀ x : Int, 0 ≤ x → x < n → 0 ≤ g x ∧ g x < n
  idem : ∀ x : Int, 0 ≤ x → x < n → g (g x) = g x
  cnt : ((FF.rng n).filter fun x => decide (g x = x)).length + (stemsTo ts i).length = n
theorem heads_nil (ts : List Tie) (n : Nat) : Heads ts n 0 (fun i => i) := by
  refine ⟨by rw [List.take_zero]; exact lab_nil n, fun x h0 h1 => ⟨h0, h1⟩, fun x _ _ => rfl, ?_⟩
  have e : ((FF.rng n).filter fun x => decide (x = x)) = FF.rng n := by
    rw [List.filter_eq_self]
    intro x _
    exact decide_eq_true rfl
  show ((FF.rng n).filter fun x => decide (x = x)).length + 0 = n
  rw [e, rng_length, Nat.add_zero]
theorem filter_drop {p q : Int → Bool} {h : Int} : ∀ {l : List Int}, l.Nodup → h ∈ l → p h = true → (∀ x ∈ l, q x = (p x && decide (x ≠ h))) → (l.filter q).length + 1 = (l.filter p).length
  | x :: l, nd, hm, hp, hq => by
    rw [List.nodup_cons] at nd
    have hx := hq x (by simp)
    rw [List.filter_cons, List.filter_cons, hx]
    by_cases e : x = h
    · subst e
      have same : l.filter q = l.filter p := List.filter_congr fun y hy => by
        rw [hq y (List.mem_cons_of_mem _ hy), decide_eq_true (show y ≠ x from fun z => nd.1 (by rw [← z]; exact hy)), Bool.and_true]
      rw [same, hp]
      simp
    · have hm' : h ∈ l := (List.mem_cons.mp hm).elim (fun z => absurd z.symm e) id
      have ih := filter_drop (l := l) nd.2 hm' hp fun y hy => hq y (List.mem_cons_of_mem _ hy)
      rw [decide_eq_true (show x ≠ h from e), Bool.and_true]
      cases p x
      · simpa using ih
      · simp
        omega
theorem heads_same {ts : List Tie} {n i : Nat} {g : Int → Int} {t : Tie} (h : Heads ts n i g) (et : ts[i]? = some t) (ok : TieOk n t) (e : g t.one = g t.other) : Heads ts n (i + 1) g := by
  refine ⟨by rw [take_snoc et]; exact lab_same h.lab ok e, h.rng, h.idem, ?_⟩
  have no : ¬ stemB ts i = true := fun z => (stem_iff et).mp z ((h.lab _ _ ok.1 ok.2.1 ok.2.2.1 ok.2.2.2.1).mp e)
  rw [stemsTo_succ, if_neg no, List.append_nil]
  exact h.cnt
theorem heads_step {ts : List Tie} {n i : Nat} {g : Int → Int} {t : Tie} {p q : Int} (h : Heads ts n i g) (et : ts[i]? = some t) (ok : TieOk n t) (e : (p = t.one ∧ q = t.other) ∨ (p = t.other ∧ q = t.one)) (ne : g p ≠ g q) : Heads ts n (i + 1) (mrg g (g p) (g q)) := by
  have pr : (0 ≤ p ∧ p < n) ∧ (0 ≤ q ∧ q < n) := by
    obtain ⟨o1, o2, o3, o4, _⟩ := ok
    rcases e with ⟨rfl, rfl⟩ | ⟨rfl, rfl⟩
    · exact ⟨⟨o1, o2⟩, o3, o4⟩
    · exact ⟨⟨o3, o4⟩, o1, o2⟩
  obtain ⟨⟨p0, p1⟩, q0, q1⟩ := pr
  have gp := h.rng p p0 p1
  have gq := h.rng q q0 q1
  have ip := h.idem p p0 p1
  have iq := h.idem q q0 q1
  refine ⟨by rw [take_snoc et]; exact lab_step h.lab ok e, fun x x0 x1 => ?_, fun x x0 x1 => ?_, ?_⟩
  · unfold mrg
    split
    · exact gq
    · exact h.rng x x0 x1
  · have ix := h.idem x x0 x1
    by_cases hx : g x = g p
    · have e1 : mrg g (g p) (g q) x = g q := if_pos hx
      rw [e1]
      show (if g (g q) = g p then g q else g (g q)) = g q
      rw [iq, if_neg (Ne.symm ne)]
    · have e1 : mrg g (g p) (g q) x = g x := if_neg hx
      rw [e1]
      show (if g (g x) = g p then g q else g (g x)) = g x
      rw [ix, if_neg hx]
  · have yes : stemB ts i = true := (stem_iff et).mpr fun z => by
      have hl := (h.lab _ _ ok.1 ok.2.1 ok.2.2.1 ok.2.2.2.1).mpr z
      rcases e with ⟨rfl, rfl⟩ | ⟨rfl, rfl⟩
      · exact ne hl
      · exact ne hl.symm
    have drop := filter_drop (p := fun x => decide (g x = x)) (q := fun x => decide (mrg g (g p) (g q) x = x)) (h := g p) (l := FF.rng n) ((rng_rising n).imp fun h => by omega) (mem_rng.mpr gp) (decide_eq_true ip) (fun x hx => ?_)
    · rw [stemsTo_succ, if_pos yes, List.length_append]
      have := h.cnt
      simp only [List.length_cons, List.length_nil]
      omega
    · have xr := mem_rng.mp hx
      rw [Bool.eq_iff_iff, Bool.and_eq_true, decide_eq_true_iff, decide_eq_true_iff, decide_eq_true_iff]
      show (if g x = g p then g q else g x) = x ↔ _
      by_cases hx : g x = g p
      · rw [if_pos hx]
        constructor
        · intro z
          exact absurd (by rw [← z, iq] at hx; exact hx.symm) ne
        · rintro ⟨z1, z2⟩
          exact absurd (z1.symm.trans hx) z2
      · rw [if_neg hx]
        exact ⟨fun z => ⟨z, fun y => hx (by rw [y]; exact ip)⟩, fun z => z.1⟩
/-- stems are told by the places of the ties alone -/
theorem rch_frames : ∀ {ts us : List Tie}, ts.length = us.length → (∀ (i : Nat) t u, ts[i]? = some t → us[i]? = some u → (u.one = t.one ∧ u.other = t.other) ∨ (u.one = t.other ∧ u.other = t.one)) → ∀ {a b : Int}, Rch ts a b → Rch us a b := by
  intro ts us hl h a b r
  refine r.ind (fun x => Rch us a x) .refl fun x y k hx ad => ?_
  obtain ⟨t, ht, _, e⟩ := ad
  obtain ⟨i, hi, rfl⟩ := List.getElem_of_mem ht
  have hu : us[i]? = some us[i] := List.getElem?_eq_getElem (by omega)
  have w := h i _ _ (List.getElem?_eq_getElem hi) hu
  refine hx.trans (Rch.adj (k := us[i].foe) ⟨us[i], List.getElem_mem _, rfl, ?_⟩)
  rcases w with ⟨w1, w2⟩ | ⟨w1, w2⟩ <;> rcases e with ⟨e1, e2⟩ | ⟨e1, e2⟩
  · exact .inl ⟨by omega, by omega⟩
  · exact .inr ⟨by omega, by omega⟩
  · exact .inr ⟨by omega, by omega⟩
  · exact .inl ⟨by omega, by omega⟩
def Framed (ts us : List Tie) : Prop := ts.length = us.length ∧ ∀ (i : Nat) t u, ts[i]? = some t → us[i]? = some u → (u.one = t.one ∧ u.other = t.other) ∨ (u.one = t.other ∧ u.other = t.one)
theorem Framed.symm {ts us : List Tie} (h : Framed ts us) : Framed us ts := ⟨h.1.symm, fun i u t e1 e2 => by
  rcases h.2 i t u e2 e1 with ⟨w1, w2⟩ | ⟨w1, w2⟩
  · exact .inl ⟨w1.symm, w2.symm⟩
  · exact .inr ⟨w2.symm, w1.symm⟩⟩
theorem Framed.take {ts us : List Tie} (h : Framed ts us) (k : Nat) : Framed (ts.take k) (us.take k) := by
  refine ⟨by rw [List.length_take, List.length_take, h.1], fun i t u e1 e2 => ?_⟩
  by_cases hk : i < k
  · rw [List.getElem?_take_of_lt hk] at e1 e2
    exact h.2 i t u e1 e2
  · rw [List.getElem?_take] at e1
    rw [if_neg hk] at e1
    cases e1
theorem Framed.map {ts : List Tie} {f : Tie → Tie} (h : ∀ t ∈ ts, ((f t).one = t.one ∧ (f t).other = t.other) ∨ ((f t).one = t.other ∧ (f t).other = t.one)) : Framed ts (ts.map f) := by
  refine ⟨by rw [List.length_map], fun i t u e1 e2 => ?_⟩
  rw [List.getElem?_map, e1] at e2
  cases e2
  exact h t (List.mem_of_getElem? e1)
theorem stems_framed {ts us : List Tie} (h : Framed ts us) : stemsTo us us.length = stemsTo ts ts.length := by
  unfold stemsTo
  rw [← h.1]
  refine List.filter_congr fun i hi => ?_
  have ir := mem_rng.mp hi
  have e1 : ts[i.toNat]? = some ts[i.toNat] := List.getElem?_eq_getElem (by omega)
  have l := h.1
  have e2 : us[i.toNat]? = some us[i.toNat] := List.getElem?_eq_getElem (by omega)
  have ht := h.take i.toNat
  rw [Bool.eq_iff_iff, stem_iff e1, stem_iff e2]
  have both : ∀ a b : Int, Rch (ts.take i.toNat) a b ↔ Rch (us.take i.toNat) a b := fun a b => ⟨fun r => rch_frames ht.1 ht.2 r, fun r => rch_frames ht.symm.1 ht.symm.2 r⟩
  rcases h.2 _ _ _ e1 e2 with ⟨w1, w2⟩ | ⟨w1, w2⟩
  · rw [w1, w2, both]
  · rw [w1, w2, both]
    exact ⟨fun z y => z y.symm, fun z y => z y.symm⟩
theorem stemsTo_rising (ts : List Tie) (k : Nat) : (stemsTo ts k).Pairwise (· < ·) := (rng_rising k).filter _
theorem stemsTo_mem {ts : List Tie} {k : Nat} {i : Int} : i ∈ stemsTo ts k ↔ (0 ≤ i ∧ i < k) ∧ stemB ts i.toNat = true := by
  unfold stemsTo
  rw [List.mem_filter, mem_rng]
theorem stems_own (ts : List Tie) : stemsTo ((stemsTo ts ts.length).map fun i => tieN ts i.toNat) (stemsTo ts ts.length).length = rng (stemsTo ts ts.length).length := by
  generalize hS : stemsTo ts ts.length = S
  unfold stemsTo
  rw [List.filter_eq_self]
  intro j hj
  have jr := mem_rng.mp hj
  have hjl : j.toNat < S.length := by omega
  have ej : (S.map fun i => tieN ts i.toNat)[j.toNat]? = some (tieN ts S[j.toNat].toNat) := by
    rw [List.getElem?_map, List.getElem?_eq_getElem hjl]
    rfl
  have hm : S[j.toNat] ∈ stemsTo ts ts.length := by rw [hS]; exact List.getElem_mem _
  obtain ⟨⟨m0, m1⟩, mb⟩ := stemsTo_mem.mp hm
  have et : ts[S[j.toNat].toNat]? = some (tieN ts S[j.toNat].toNat) := by
    have h : S[j.toNat].toNat < ts.length := by omega
    rw [List.getElem?_eq_getElem h, tieN_of (List.getElem?_eq_getElem h)]
  rw [stem_iff ej]
  rw [stem_iff et] at mb
  refine fun r => mb (r.mono fun t ht => ?_)
  rw [← List.map_take, List.mem_map] at ht
  obtain ⟨x, hx, rfl⟩ := ht
  obtain ⟨a, ha, rfl⟩ := List.getElem_of_mem hx
  rw [List.length_take] at ha
  rw [List.getElem_take]
  have hx' : S[a] ∈ stemsTo ts ts.length := by rw [hS]; exact List.getElem_mem _
  obtain ⟨⟨x0, x1⟩, _⟩ := stemsTo_mem.mp hx'
  have rise : S.Pairwise (· < ·) := by rw [← hS]; exact stemsTo_rising _ _
  have lt : S[a] < S[j.toNat] := List.pairwise_iff_getElem.mp rise a j.toNat (by omega) hjl (by omega)
  have h : S[a].toNat < ts.length := by omega
  rw [tieN_of (List.getElem?_eq_getElem h)]
  rw [List.mem_iff_getElem]
  exact ⟨S[a].toNat, by rw [List.length_take]; omega, by rw [List.getElem_take]⟩
/-! ### neighbours, and what a walk has come to (mathematics) -/
abbrev Nb := Int × Bool
def nb1 (t : Tie) (i : Int) : List Nb := (if i = t.one then [(t.other, t.foe)] else []) ++ (if i = t.other then [(t.one, t.foe)] else [])
def nbs (ts : List Tie) (i : Int) : List Nb := ts.flatMap fun t => nb1 t i
theorem nbs_snoc (ts : List Tie) (t : Tie) (i : Int) : nbs (ts ++ [t]) i = nbs ts i ++ nb1 t i := by
  unfold nbs
  rw [List.flatMap_append]
  simp
theorem nb1_len (t : Tie) (i : Int) : (nb1 t i).length ≤ 2 := by
  unfold nb1
  rw [List.length_append]
  split <;> split <;> simp
theorem nbs_len (ts : List Tie) (i : Int) : (nbs ts i).length ≤ 2 * ts.length := by
  induction ts with
  | nil => simp [nbs]
  | cons t ts ih =>
    have h := nb1_len t i
    unfold nbs at ih ⊢
    rw [List.flatMap_cons, List.length_append, List.length_cons]
    omega
theorem mem_nbs {ts : List Tie} {i : Int} {p : Nb} : p ∈ nbs ts i ↔ Adj ts i p.1 p.2 := by
  unfold nbs Adj nb1
  rw [List.mem_flatMap]
  constructor
  · rintro ⟨t, ht, h⟩
    refine ⟨t, ht, ?_⟩
    rcases List.mem_append.mp h with h | h
    · split at h
      · rename_i e
        rw [List.mem_singleton] at h
        subst h
        exact ⟨rfl, .inl ⟨e.symm, rfl⟩⟩
      · simp at h
    · split at h
      · rename_i e
        rw [List.mem_singleton] at h
        subst h
        exact ⟨rfl, .inr ⟨rfl, e.symm⟩⟩
      · simp at h
  · rintro ⟨t, ht, e, h⟩
    refine ⟨t, ht, List.mem_append.mpr ?_⟩
    obtain ⟨p1, p2⟩ := p
    simp only at e h
    rcases h with ⟨h1, h2⟩ | ⟨h1, h2⟩
    · left
      rw [if_pos h1.symm, List.mem_singleton, ← e, ← h2]
    · right
      rw [if_pos h2.symm, List.mem_singleton, ← e, ← h1]
theorem pigeon : ∀ (n : Nat) (xs : List Int), xs.Nodup → (∀ x ∈ xs, 0 ≤ x ∧ x < n) → xs.length ≤ n
  | 0, xs, _, h => by
    cases xs with
    | nil => simp
    | cons x r =>
      have := h x (by simp)
      omega
  | n + 1, xs, nd, h => by
    have q := pigeon n (xs.erase (n : Int)) (nd.erase _) fun x hx => by
      have h1 := h x (List.mem_of_mem_erase hx)
      have h2 : x ≠ n := (List.Nodup.mem_erase_iff nd).mp hx |>.1
      omega
    have l := List.length_erase (a := (n : Int)) (l := xs)
    split at l
    · omega
    · omega
structure SF (ts : List Tie) (s : Int) (ks : List Nb) (wl ex : List Int) : Prop where
  nd : (ks.map (·.1)).Nodup
  rp : ∀ p ∈ ks, RP ts s p.1 p.2
  st : s ∈ ks.map (·.1)
  sub : ∀ x ∈ wl, x ∈ ks.map (·.1)
  le : wl.length ≤ ks.length
  cl : ∀ x ∈ ks.map (·.1), x ∉ wl → x ∉ ex → ∀ y k, Adj ts x y k → y ∈ ks.map (·.1)
theorem SF.keys {ts : List Tie} {s : Int} {ks : List Nb} {wl ex : List Int} (h : SF ts s ks wl ex) {x : Int} (hx : x ∈ ks.map (·.1)) : ∃ b, (x, b) ∈ ks ∧ RP ts s x b := by
  obtain ⟨p, hp, rfl⟩ := List.mem_map.mp hx
  exact ⟨p.2, hp, h.rp p hp⟩
theorem SF.few {ts : List Tie} {n : Nat} {s : Int} {ks : List Nb} {wl ex : List Int} (h : SF ts s ks wl ex) (ok : ∀ t ∈ ts, TieOk n t) (hs : 0 ≤ s ∧ s < n) : ks.length ≤ n := by
  have q := pigeon n (ks.map (·.1)) h.nd fun x hx => by
    obtain ⟨b, _, hb⟩ := h.keys hx
    exact Rch.rng ok hs ⟨b, hb⟩
  rw [List.length_map] at q
  exact q
theorem SF.all {ts : List Tie} {s : Int} {ks : List Nb} (h : SF ts s ks [] []) (z : Int) : z ∈ ks.map (·.1) ↔ Rch ts s z := by
  constructor
  · intro hz
    obtain ⟨b, _, hb⟩ := h.keys hz
    exact ⟨b, hb⟩
  · intro hz
    exact hz.ind (fun x => x ∈ ks.map (·.1)) h.st fun x y k hx ad => h.cl x hx (by simp) (by simp) y k ad
theorem SF.pop {ts : List Tie} {s p : Int} {ks : List Nb} {wl : List Int} (h : SF ts s ks (wl ++ [p]) []) : SF ts s ks wl [p] :=
  ⟨h.nd, h.rp, h.st, fun x hx => h.sub x (List.mem_append_left _ hx), by have := h.le; rw [List.length_append] at this; omega, fun x hx h1 h2 => h.cl x hx (fun z => by
    rcases List.mem_append.mp z with z | z
    · exact h1 z
    · exact h2 z) (by simp)⟩
theorem SF.push {ts : List Tie} {s p y : Int} {b f : Bool} {ks : List Nb} {wl : List Int} (h : SF ts s ks wl [p]) (hp : RP ts s p b) (ad : Adj ts p y f) (hy : y ∉ ks.map (·.1)) : SF ts s (ks ++ [(y, b ^^ f)]) (wl ++ [y]) [p] := by
  have em : (ks ++ [(y, b ^^ f)]).map (·.1) = ks.map (·.1) ++ [y] := by rw [List.map_append]; rfl
  refine ⟨?_, fun q hq => ?_, ?_, fun x hx => ?_, ?_, fun x hx h1 h2 z k hz => ?_⟩
  · rw [em, List.nodup_append]
    refine ⟨h.nd, by simp, fun x hx z hz e => ?_⟩
    rw [List.mem_singleton] at hz
    subst hz
    subst e
    exact hy hx
  · rcases List.mem_append.mp hq with q1 | q1
    · exact h.rp q q1
    · rw [List.mem_singleton] at q1
      subst q1
      exact hp.step ad
  · rw [em]
    exact List.mem_append_left _ h.st
  · rw [em]
    rcases List.mem_append.mp hx with q1 | q1
    · exact List.mem_append_left _ (h.sub x q1)
    · exact List.mem_append_right _ q1
  · rw [List.length_append, List.length_append]
    have := h.le
    simp
    omega
  · rw [em] at hx ⊢
    rcases List.mem_append.mp hx with q1 | q1
    · exact List.mem_append_left _ (h.cl x q1 (fun q2 => h1 (List.mem_append_left _ q2)) h2 z k hz)
    · exact absurd (List.mem_append_right _ q1) h1
theorem SF.done {ts : List Tie} {s p : Int} {ks : List Nb} {wl : List Int} (h : SF ts s ks wl [p]) (hp : ∀ q ∈ nbs ts p, q.1 ∈ ks.map (·.1)) : SF ts s ks wl [] :=
  ⟨h.nd, h.rp, h.st, h.sub, h.le, fun x hx h1 _ y k ad => by
    by_cases e : x = p
    · subst e
      exact hp (y, k) (mem_nbs.mpr ad)
    · exact h.cl x hx h1 (fun z => e (List.mem_singleton.mp z)) y k ad⟩
theorem room1 {k : Nat} {A : PySem.Around} (r : Room k A) : A.units + 1 < cLine := by have := r.un; omega
/-! ### the law: the least place that each comes to -/
def lf (f : Int → Int) (n : Nat) : List V := (rng n).map fun i => V.int (f i)
theorem lf_len (f : Int → Int) (n : Nat) : (lf f n).length = n := by unfold lf; rw [List.length_map, rng_length]
theorem lf_get? (f : Int → Int) {n j : Nat} (h : j < n) : (lf f n)[j]? = some (.int (f j)) := by
  unfold lf rng
  rw [List.map_map, List.getElem?_map, List.getElem?_range h]
  rfl
theorem lf_at (f : Int → Int) {n : Nat} {i : Int} (h0 : 0 ≤ i) (h1 : i < n) : atI (lf f n) i = some (.int (f i)) := by
  have e : ((i.toNat : Nat) : Int) = i := by omega
  refine atI_of h0 ?_
  rw [lf_get? f (by omega), e]
theorem lf_set (f : Int → Int) {n : Nat} {i y : Int} (h0 : 0 ≤ i) (h1 : i < n) : (lf f n).set i.toNat (.int y) = lf (fun x => if x = i then y else f x) n := by
  refine List.ext_getElem? fun j => ?_
  rw [List.getElem?_set]
  by_cases hj : j < n
  · by_cases e : i.toNat = j
    · rw [if_pos e, if_pos (by rw [lf_len]; omega), lf_get? _ hj, if_pos (by omega)]
    · rw [if_neg e, lf_get? _ hj, lf_get? _ hj, if_neg (by omega)]
  · have e : i.toNat ≠ j := by omega
    rw [if_neg e, List.getElem?_eq_none (by rw [lf_len]; omega), List.getElem?_eq_none (by rw [lf_len]; omega)]
theorem ixN_of {n : Nat} {i : Int} (h0 : 0 ≤ i) (h1 : i < n) : ixN n i = some i.toNat := by
  unfold ixN
  rw [if_pos (by omega), if_pos (by omega)]
/-! ### enumerate of a tuple -/
set_option maxHeartbeats 1000000 in
theorem meets_enumOne {v : Value} {o : Obj} {S : Heap → Prop} (B : Begins v o S) : Meets (Builtin.«enumerate.__new__» ⟨[.type "enumerate", v], []⟩) (fun _ R s => S s.heap ∧
      R (.ok (.ret (.ref (s.heap.push o).objs.size))) { s with heap := (s.heap.push o).push { cls := .type "enumerate", data := .fields #[.none, .bool false, .ref s.heap.objs.size, rawInt 0, .none, .none] } }) :=
  .of_wp fun prog w A R s h => by
    obtain ⟨hp, g, d, tk, os⟩ := s
    obtain ⟨h1, h⟩ := h
    have sub0 := sub_enumerate
    have begun : ∀ {A' : PySem.Around} {E : Value → Shared → Prop} {Q : Value → Shared → Prop}, Q (.ref hp.objs.size) ⟨hp.push o, g, d, tk, os⟩ → wpAny (model prog w) A' (pyIter v) Q E ⟨hp, g, d, tk, os⟩ := fun q => B.iter prog w _ _ ⟨hp, g, d, tk, os⟩ _ h1 q
    wp_walk using begun
    refine wpAny_stack_any fun st => wpAny_pure ?_
    split
    · rename_i c _ _ _ _ _
      cases (c == Value.type "enumerate")
      all_goals
        wp_walk using begun
        exact ⟨_, rfl, h⟩
    · wp_walk using begun
      exact ⟨_, rfl, h⟩
theorem call_enumT {P : Program} {w : World} {A : PySem.Around} {E : Value → Shared → Prop} {s : Shared} {t : Addr} {items : Array Value} {Q : Value → Shared → Prop} (ht : s.heap.IsTuple t items)
    (h : ∀ h', IsEnum h' (s.heap.objs.size + 1) s.heap.objs.size 0 .none → h'.IsTupleIter s.heap.objs.size t 0 → (∀ b o, s.heap.get? b = some o → h'.get? b = some o) → Q (.ref (s.heap.objs.size + 1)) { s with heap := h' }) : wpAny (model P w) A (call (.type "enumerate") [.ref t]) Q E s := by
  refine callType_new PySem.F.called_enumerate (by decide) (PySem.F.typeCall_enumerate_1 _) (PySem.F.newCall_enumerate_1 _) (fun ob => PySem.F.args_object_init_2 ob _) PySem.F.entry_enumerate_new (meets_enumOne (begins_tuple t items)) ⟨ht, ?_⟩
  have size1 := Heap.size_push s.heap { cls := .type "tuple_iterator", data := .fields #[.ref t, .int 0 0] }
  have en := Heap.get?_push_size (s.heap.push { cls := .type "tuple_iterator", data := .fields #[.ref t, .int 0 0] }) (o := { cls := .type "enumerate", data := .fields #[.none, .bool false, .ref s.heap.objs.size, rawInt 0, .none, .none] }) rfl
  rw [size1] at en
  show _ ∧ _
  rw [size1]
  exact ⟨⟨_, en, rfl⟩, h _ en ⟨_, Heap.get?_push_of_some _ (Heap.get?_push_size _ rfl), rfl, rfl⟩ fun b o e => Heap.get?_push_of_some _ (Heap.get?_push_of_some _ e)⟩
/-- the turns: a new pair each, of the number and the part -/
def ItN (K : PySem.W.Frag) (a : Addr) : It where
  go := fun i H => ∃ (xs : List V) (x : V), SqT K H a xs ∧ xs[i]? = some x
  yld := fun i H v H' => ∃ T x, v = .ref T ∧ H T = none ∧ H' = upd H T (.tup [.int (i : Nat), x]) ∧ ∀ xs, SqT K H a xs → xs[i]? = some x
  stop := fun i H => ∃ xs : List V, SqT K H a xs ∧ xs.length ≤ i
theorem turn_enumT {P : Program} {w : World} {K : PySem.W.Frag} {elts : List Expr} {kk : Nat} {tpos : Pos} (a e it : Addr) (n1 : e ≠ it) (n2 : a ≠ it) (n3 : e ≠ a) :
    Turn P w K (.Tuple elts kk tpos) (ItN K a) [e, it] e (fun i h => (∃ old, IsEnum h e it ((i : Nat) : Int) old) ∧ h.IsTupleIter it a i) where
  mem := List.mem_cons_self
  obj := by
    rintro i h ⟨⟨old, he⟩, o, ho, hc, hd⟩ b hb
    rcases List.mem_cons.mp hb with rfl | hb
    · exact ⟨_, he, fun v q => nomatch q⟩
    · rw [List.mem_singleton.mp hb]
      exact ⟨o, ho, fun v q => by rw [hd] at q; cases q⟩
  keep := by
    rintro i h h' ⟨⟨old, he⟩, hit⟩ kp
    exact ⟨⟨old, kp e (by simp) _ he⟩, hit.at fun o q => kp it (by simp) o q⟩
  item := by
    intro X hP hw hK hc i pins s σ H E I hf st hg
    subst hP hw hK
    obtain ⟨⟨old, he⟩, hit⟩ := st
    obtain ⟨xs, x, hq, hx⟩ := hg
    obtain ⟨its, rv, tup, _⟩ := I.tuple hq
    obtain ⟨u, hu, ru⟩ := rv.get hx
    have le := Heap.lt_size he
    have li : it < s.heap.objs.size := let ⟨_, q, _⟩ := hit; Heap.lt_size q
    have lt : i < its.toArray.size := by simpa using (List.getElem?_eq_some_iff.mp hu).1
    refine wpAny_pyNext_enum_itemD (Draws.tuple (A := X.A.in1) (I.ok.hd hc) it a n2 its.toArray) he ⟨hit, tup⟩ lt n1 (by simp [n1, n3]) fun x' h' tk ex out st' new _ kp => ?_
    obtain rfl : u = x' := Option.some.inj (((by simpa using hu) : its.toArray[i]? = some u).symm.trans ex)
    refine ⟨_, rfl, wpAny_letOwnedTupleGo_enum (s := { s with heap := h', toks := tk + 1 }) out fun h2 he2 sb => ?_⟩
    have new2 : h2.get? s.heap.objs.size = some { cls := .type "tuple", data := .seq #[.int i tk, u] } := (sb.2 _ (Nat.ne_of_gt le)).trans new
    have objT : ObjOk X.prog X.w (upd H s.heap.objs.size (.tup [.int (i : Nat), x])) h2 s.heap.objs.size (.tup [.int (i : Nat), x]) := ⟨by show 2 ≤ sizeLine; decide, [.int i tk, u], .cons ⟨_, rfl⟩ (.cons ru .nil), ⟨_, new2, rfl, _, rfl⟩⟩
    have J : Inv X pins σ (upd H s.heap.objs.size (.tup [.int (i : Nat), x])) { s with heap := h2, toks := tk + 1 } := I.turnedNew (ch := [e, it]) (fun b ob hb q => by
      simp only [List.mem_cons, List.not_mem_nil, or_false, not_or] at hb
      exact (sb.2 b hb.1).trans (kp b ob hb.1 hb.2 q)) hf (Nat.le_refl _) objT
    refine ⟨.ref s.heap.objs.size, _, J, rfl, ⟨_, x, rfl, I.hok.fresh (Nat.le_refl _), rfl, fun ys hy => by rw [I.tuple_inj hy hq]; exact hx⟩, ⟨⟨u, ?_⟩, st'.1.at fun o q => (sb.2 it (Ne.symm n1)).trans q⟩, fun b hb => ?_⟩
    · rw [show ((i + 1 : Nat) : Int) = (i : Int) + 1 from by omega]
      exact he2
    · have lb : b < s.heap.objs.size := by
        rcases List.mem_cons.mp hb with rfl | hb
        · exact le
        · rw [List.mem_singleton.mp hb]
          exact li
      rw [upd_ne (Nat.ne_of_lt lb)]
      exact (hf b hb).1
  done := by
    intro X hP hw hK hc i pins s σ H E I hf st hg
    subst hP hw hK
    obtain ⟨⟨old, he⟩, hit⟩ := st
    obtain ⟨xs, hq, hx⟩ := hg
    obtain ⟨its, rv, tup, _⟩ := I.tuple hq
    have hl := rv.length
    obtain ⟨f0, f1, f2, f3, f4, f5⟩ := hf it (by simp)
    have D : Draws X.prog X.w X.A.in1 it [it, a] i (fun _ _ => False) (fun j h => j = i ∧ h.IsTupleIter it a i ∧ h.IsTuple a its.toArray) := {
      live := fun j h z => let ⟨_, ⟨o, q, _⟩, _⟩ := z; ⟨o, q⟩
      frame := fun j h h' z kp => ⟨z.1, z.2.1.at fun o q => kp it (by simp) o q, z.2.2.at fun o q => kp a (by simp) o q⟩
      item := fun j s' Q E' hj z => absurd z.1 (Nat.ne_of_lt hj)
      done := fun s' Q E' z fin => wpAny_nextOf_tuple_end (I.ok.hd hc) z.2.1 z.2.2 (by simp; omega) fin }
    exact wpAny_pyNext_enum_endD D he ⟨rfl, hit, tup⟩ fun h' eb => ⟨rfl, I.turned (t' := s.toks) (fun b o hb q => eb b o hb q) f0 f1 f3 f4 f5⟩
  self := fun A i s Q E st h => let ⟨⟨_, he⟩, _⟩ := st; wpAny_pyIter_enum he h
def iEnT (K : PySem.W.Frag) (ta : TA) : TI := fun σ H R => ta σ H fun vs H1 => ∃ a xs, vs = [.ref a] ∧ SqT K H1 a xs ∧ R (ItN K a) H1
theorem pi_enumT {X : Cx} {e : Expr} {ta : TA} {p pos tpos : Pos} {elts : List Expr} {kk : Nat} (hg : Gl X "enumerate") (hm : X.mg "enumerate" = none) (ha : PA X [e] ta) (hs : starEach [e] X.env = [(false, eval e X.env)] := by rfl) :
    PI X (.Tuple elts kk tpos) (.Call (.Name "enumerate" p) [e] [] pos) (iEnT X.K ta) := by
  refine ⟨fun pins s σ H R I want => Call_ (ld_blt I hg hm boot_enumerate (PyProof.Rows.callWith_type1 (thn (ha.run pos pins s σ H _ I want) fun us s1 got => ?_) hs rfl))⟩
  obtain ⟨vs, H1, J, rel, a, xs, ex, hq, q⟩ := got
  subst ex
  obtain ⟨u, eu, r1⟩ := vals1 rel
  subst eu
  obtain rfl : u = Value.ref a := r1
  obtain ⟨its, rv, tup, _⟩ := J.tuple hq
  have la : a < s1.heap.objs.size := let ⟨_, q, _⟩ := tup; Heap.lt_size q
  refine call_enumT (items := its.toArray) tup fun h' he hit kp => wpAny_pyIter_enum he ?_
  have J2 : Inv X pins σ H1 { s1 with heap := h' } := J.kept (t' := s1.toks) kp
  refine ⟨s1.heap.objs.size + 1, [s1.heap.objs.size + 1, s1.heap.objs.size], _, _, H1, rfl, J2, turn_enumT a (s1.heap.objs.size + 1) s1.heap.objs.size (Nat.succ_ne_self _) (Nat.ne_of_lt la) (Nat.ne_of_gt (Nat.lt_succ_of_lt la)), ⟨⟨.none, he⟩, hit⟩, fun b hb => ?_, q⟩
  have lb : s1.heap.objs.size ≤ b := by
    rcases List.mem_cons.mp hb with rfl | hb
    · exact Nat.le_succ _
    · rw [List.mem_singleton.mp hb]
      exact Nat.le_refl _
  exact J.fpOk lb (J.hok.fresh lb)
theorem walk_enumT {K : PySem.W.Frag} {a : Addr} {xs : List V} : Walk (ItN K a) xs.length (fun H => SqT K H a xs) (YPair (fun i => some (.int (i : Nat))) (fun i => xs[i]?)) :=
  ⟨fun i H hi h => ⟨xs, xs[i], h, List.getElem?_eq_getElem hi⟩, fun H h => ⟨xs, h, Nat.le_refl _⟩, fun i H x H' hi h y => by
    obtain ⟨T, z, e1, e2, e3, e4⟩ := y
    exact ⟨T, _, z, e1, e2, e3, rfl, e4 xs h⟩⟩
/-! ### ties that sides break -/
def sd (ss : List Int) (i : Int) : Int := ss.getD i.toNat 0
def tieAt (ts : List Tie) (i : Int) : Tie := ts.getD i.toNat ⟨0, 0, false⟩
def brk (ss : List Int) (t : Tie) : Bool := decide (sd ss t.one = sd ss t.other) == t.foe
def badTo (ss : List Int) (ts : List Tie) (k : Nat) : List Int := (rng k).filter fun i => brk ss (tieAt ts i)
def bad (ss : List Int) (ts : List Tie) : List Int := badTo ss ts ts.length
theorem badTo_succ (ss : List Int) (ts : List Tie) (k : Nat) : badTo ss ts (k + 1) = badTo ss ts k ++ (if brk ss (tieAt ts k) = true then [(k : Int)] else []) := by
  unfold badTo
  rw [rng_succ, List.filter_append, List.filter_cons]
  rfl
theorem badTo_len (ss : List Int) (ts : List Tie) (k : Nat) : (badTo ss ts k).length ≤ k := by
  unfold badTo
  have := List.length_filter_le (fun i => brk ss (tieAt ts i)) (rng k)
  rw [rng_length] at this
  exact this
theorem atI_sd {ss : List Int} {i : Int} (h0 : 0 ≤ i) (h1 : i < ss.length) : atI (ss.map V.int) i = some (.int (sd ss i)) := by
  have h : i.toNat < ss.length := by omega
  refine atI_of h0 ?_
  unfold sd
  rw [List.getElem?_map, List.getElem?_eq_getElem h, List.getD_eq_getElem?_getD, List.getElem?_eq_getElem h]
  rfl
theorem tieAt_of {ts : List Tie} {i : Nat} {t : Tie} (h : ts[i]? = some t) : tieAt ts i = t := by
  unfold tieAt
  rw [Int.toNat_natCast, List.getD_eq_getElem?_getD, h]
  rfl
theorem eq_brk (x y : Int) (f : Bool) : decide (V.bl (decide (V.int x = V.int y)) = V.bl (decide (V.str (kindS f) = V.str "foe"))) = (decide (x = y) == f) := by
  have e : decide (V.int x = V.int y) = decide (x = y) := by
    by_cases h : x = y
    · rw [decide_eq_true h, decide_eq_true (by rw [h])]
    · rw [decide_eq_false h, decide_eq_false (fun z => h (V.int.inj z))]
  rw [e]
  cases decide (x = y) <;> cases f <;> rfl
theorem ne_brk (x y : Int) (f : Bool) : (!decide (V.bl (!decide (V.int x = V.int y)) = V.bl (decide (V.str (kindS f) = V.str "foe")))) = (decide (x = y) == f) := by
  have e : decide (V.int x = V.int y) = decide (x = y) := by
    by_cases h : x = y
    · rw [decide_eq_true h, decide_eq_true (by rw [h])]
    · rw [decide_eq_false h, decide_eq_false (fun z => h (V.int.inj z))]
  rw [e]
  cases decide (x = y) <;> cases f <;> rfl
def spBreaks : Sp := fun vs H Q _ => ∃ (a b : Addr) (ss : List Int) (t : Tie), vs = [.ref a, .ref b] ∧ H a = some (.tup (ss.map V.int)) ∧ H b = some (.tup [.int t.one, .int t.other, .str (kindS t.foe)]) ∧ TieOk ss.length t ∧ Q (.bl (brk ss t)) H
def spBroken : Sp := fun vs H Q _ => ∃ (v : V) (a : Addr) (n : Int) (ts : List Tie) (ss : List Int), vs = [v, .ref a] ∧ WebAt H v n ts ∧ WebOk n ts ∧ H a = some (.tup (ss.map V.int)) ∧ (ss.length : Int) = n ∧
  ∀ r H', Same H H' → H' r = some (.tup ((bad ss ts).map V.int)) → Q (.ref r) H'
/-! ### sides put over -/
def Bin (ss : List Int) : Prop := ∀ x ∈ ss, x = 0 ∨ x = 1
theorem sd_get {ss : List Int} {i : Int} (h0 : 0 ≤ i) (h1 : i < ss.length) : ∃ h : i.toNat < ss.length, sd ss i = ss[i.toNat] := by
  have h : i.toNat < ss.length := by omega
  refine ⟨h, ?_⟩
  unfold sd
  rw [List.getD_eq_getElem?_getD, List.getElem?_eq_getElem h]
  rfl
theorem sd_bin {ss : List Int} (b : Bin ss) {i : Int} (h0 : 0 ≤ i) (h1 : i < ss.length) : sd ss i = 0 ∨ sd ss i = 1 := by
  obtain ⟨h, e⟩ := sd_get h0 h1
  rw [e]
  exact b _ (List.getElem_mem h)
def over (ss : List Int) : List Int := ss.map fun s => 1 - s
theorem sd_over {ss : List Int} {i : Int} (h0 : 0 ≤ i) (h1 : i < ss.length) : sd (over ss) i = 1 - sd ss i := by
  obtain ⟨h, e⟩ := sd_get h0 h1
  obtain ⟨h', e'⟩ := sd_get (ss := over ss) h0 (by unfold over; rw [List.length_map]; exact h1)
  rw [e, e']
  simp [over]
theorem brk_over {ss : List Int} {t : Tie} (ok : TieOk ss.length t) : brk (over ss) t = brk ss t := by
  unfold brk
  rw [sd_over ok.1 ok.2.1, sd_over ok.2.2.1 ok.2.2.2.1]
  congr 1
  rw [decide_eq_decide]
  omega
theorem tieAt_mem {ts : List Tie} {i : Int} (h : i ∈ rng ts.length) : tieAt ts i ∈ ts := by
  rw [mem_rng] at h
  have h' : i.toNat < ts.length := by omega
  unfold tieAt
  rw [List.getD_eq_getElem?_getD, List.getElem?_eq_getElem h']
  exact List.getElem_mem h'
theorem bad_over {ss : List Int} {ts : List Tie} (ok : ∀ t ∈ ts, TieOk ss.length t) : bad (over ss) ts = bad ss ts := by
  unfold bad badTo
  exact List.filter_congr fun i hi => brk_over (ok _ (tieAt_mem hi))
def moved (ss : List Int) (p : Int) : List Int := ss.set p.toNat (1 - sd ss p)
theorem moved_len (ss : List Int) (p : Int) : (moved ss p).length = ss.length := by unfold moved; rw [List.length_set]
theorem sd_moved {ss : List Int} {p i : Int} (p0 : 0 ≤ p) (p1 : p < ss.length) (h0 : 0 ≤ i) (h1 : i < ss.length) : sd (moved ss p) i = if i = p then 1 - sd ss p else sd ss i := by
  show (ss.set p.toNat (1 - sd ss p)).getD i.toNat 0 = _
  rw [List.getD_eq_getElem?_getD, List.getElem?_set]
  by_cases hp : i = p
  · subst hp
    rw [if_pos rfl, if_pos (by omega), if_pos rfl]
    rfl
  · rw [if_neg (by omega), if_neg hp]
    unfold sd
    rw [List.getD_eq_getElem?_getD]
theorem brk_moved {ss : List Int} (b : Bin ss) {t : Tie} {p : Int} (ok : TieOk ss.length t) (p0 : 0 ≤ p) (p1 : p < ss.length) : brk (moved ss p) t = (brk ss t != (t.one == p || t.other == p)) := by
  unfold brk
  rw [sd_moved p0 p1 ok.1 ok.2.1, sd_moved p0 p1 ok.2.2.1 ok.2.2.2.1]
  have b1 := sd_bin b ok.1 ok.2.1
  have b2 := sd_bin b ok.2.2.1 ok.2.2.2.1
  have ne := ok.2.2.2.2
  by_cases h1 : t.one = p
  · have h2 : t.other ≠ p := fun z => ne (h1.trans z.symm)
    rw [if_pos h1, if_neg h2, ← h1]
    have e1 : (t.one == t.one) = true := by simp
    rw [e1, Bool.true_or]
    rcases b1 with e | e <;> rcases b2 with e' | e' <;> rw [e, e'] <;> cases t.foe <;> rfl
  · rw [if_neg h1]
    have e1 : (t.one == p) = false := by simp [h1]
    rw [e1, Bool.false_or]
    by_cases h2 : t.other = p
    · rw [if_pos h2, ← h2]
      have e2 : (t.other == t.other) = true := by simp
      rw [e2]
      rcases b1 with e | e <;> rcases b2 with e' | e' <;> rw [e, e'] <;> cases t.foe <;> rfl
    · rw [if_neg h2]
      have e2 : (t.other == p) = false := by simp [h2]
      rw [e2, Bool.bne_false]
theorem moved_cut {ss : List Int} {p : Int} (p0 : 0 ≤ p) (p1 : p < ss.length) : cutV (ss.map V.int) none (some p) ++ [V.int (1 - sd ss p)] ++ cutV (ss.map V.int) (some (p + 1)) none = (moved ss p).map V.int := by
  obtain ⟨k, rfl⟩ : ∃ k : Nat, p = k := ⟨p.toNat, by omega⟩
  have hk : k < ss.length := by omega
  have e1 : cutV (ss.map V.int) none (some (k : Int)) = (ss.take k).map V.int := by
    unfold cutV
    rw [HT.sIx_none, HT.sIx_nat, List.length_map, Nat.min_eq_left (by omega), List.drop_zero, List.map_take]
    rfl
  have e2 : cutV (ss.map V.int) (some ((k : Int) + 1)) none = (ss.drop (k + 1)).map V.int := by
    unfold cutV
    rw [HT.sIx_none, show ((k : Int) + 1) = ((k + 1 : Nat) : Int) from by omega, HT.sIx_nat, List.length_map, Nat.min_eq_left (by omega), List.map_drop]
    exact List.take_of_length_le (by rw [List.length_drop, List.length_map]; omega)
  rw [e1, e2]
  unfold moved
  rw [Int.toNat_natCast, List.set_eq_take_append_cons_drop, if_pos hk]
  simp
theorem in_bad {ss : List Int} {ts : List Tie} {i : Nat} (hi : i < ts.length) : inV (.int (i : Int)) ((bad ss ts).map V.int) = brk ss (tieAt ts i) := by
  rw [Bool.eq_iff_iff]
  unfold inV
  rw [List.any_map, List.any_eq_true]
  unfold bad badTo
  constructor
  · rintro ⟨x, hx, e⟩
    have e' : (x == (i : Int)) = true := e
    rw [beq_iff_eq] at e'
    subst e'
    exact (List.mem_filter.mp hx).2
  · intro h
    exact ⟨i, List.mem_filter.mpr ⟨mem_rng.mpr (by omega), h⟩, by show ((i : Int) == (i : Int)) = true; simp⟩
theorem flat_ints (xs : List Int) : (xs.map V.int).all flatV = true := by
  rw [List.all_map, List.all_eq_true]
  intro x _
  rfl
theorem in_two (p x y : Int) : inV (.int p) [.int x, .int y] = (x == p || y == p) := by
  show ((x == p) || ((y == p) || false)) = _
  rw [Bool.or_false]
theorem ne_bl (a b : Bool) : (!decide (V.bl a = V.bl b)) = (a != b) := by cases a <;> cases b <;> rfl
/-! ### the fixed choice: the mathematics -/
def Cons (ss : List Int) (ts : List Tie) : Prop := ∀ t ∈ ts, brk ss t = false
def Odd (ts : List Tie) (n : Nat) : Prop := ∃ x : Int, (0 ≤ x ∧ x < n) ∧ RP ts x x true
def one? (ss : List Int) (i : Int) : Bool := decide (sd ss i = 1)
structure Told (ts : List Tie) (n : Nat) (ss : List Int) : Prop where
  len : ss.length = n
  bin : Bin ss
  each : ∀ i : Int, 0 ≤ i → i < n → ∃ m, leader ts m ∧ RP ts m i (one? ss i)
theorem brk_one {ss : List Int} (b : Bin ss) {t : Tie} (ok : TieOk ss.length t) : brk ss t = ((one? ss t.one ^^ one? ss t.other) ^^ t.foe) := by
  unfold brk one?
  have b1 := sd_bin b ok.1 ok.2.1
  have b2 := sd_bin b ok.2.2.1 ok.2.2.2.1
  rcases b1 with e | e <;> rcases b2 with e' | e' <;> rw [e, e'] <;> cases t.foe <;> decide
theorem cons_adj {ss : List Int} {ts : List Tie} (b : Bin ss) (ok : ∀ t ∈ ts, TieOk ss.length t) (h : Cons ss ts) {x y : Int} {k : Bool} (ad : Adj ts x y k) : (one? ss x ^^ one? ss y) = k := by
  obtain ⟨t, ht, rfl, h1⟩ := ad
  have e := h t ht
  rw [brk_one b (ok t ht)] at e
  rcases h1 with ⟨rfl, rfl⟩ | ⟨rfl, rfl⟩
  · revert e
    cases one? ss t.one <;> cases one? ss t.other <;> cases t.foe <;> simp
  · revert e
    cases one? ss t.one <;> cases one? ss t.other <;> cases t.foe <;> simp
theorem cons_walk {ss : List Int} {ts : List Tie} (b : Bin ss) (ok : ∀ t ∈ ts, TieOk ss.length t) (h : Cons ss ts) {x y : Int} {p : Bool} (r : RP ts x y p) : (one? ss x ^^ one? ss y) = p := by
  induction r with
  | nil => rw [Bool.xor_self]
  | step _ ad ih =>
    rw [← ih, ← cons_adj b ok h ad]
    rename_i u v p k _
    cases one? ss x <;> cases one? ss u <;> cases one? ss v <;> rfl
theorem cons_no_odd {ss : List Int} {ts : List Tie} {n : Nat} (b : Bin ss) (ok : ∀ t ∈ ts, TieOk ss.length t) (h : Cons ss ts) : ¬ Odd ts n := by
  rintro ⟨x, _, r⟩
  have := cons_walk b ok h r
  rw [Bool.xor_self] at this
  cases this
theorem leader_one {ts : List Tie} {m m' i : Int} (h : leader ts m) (h' : leader ts m') (r : Rch ts m i) (r' : Rch ts m' i) : m = m' := by
  have h1 := h m' (r.trans r'.symm)
  have h2 := h' m (r'.trans r.symm)
  omega
theorem told_unique {ts : List Tie} {n : Nat} {ss zs : List Int} (ok : ∀ t ∈ ts, TieOk n t) (h : Told ts n ss) (g : Told ts n zs) (c : Cons ss ts) : ss = zs := by
  refine List.ext_getElem? fun j => ?_
  by_cases hj : j < n
  · obtain ⟨m, l1, r1⟩ := h.each j (by omega) (by omega)
    obtain ⟨m', l2, r2⟩ := g.each j (by omega) (by omega)
    obtain rfl := leader_one l1 l2 ⟨_, r1⟩ ⟨_, r2⟩
    have w := cons_walk h.bin (by rw [h.len]; exact ok) c (r1.trans r2.symm)
    rw [Bool.xor_self] at w
    have e : one? ss j = one? zs j := by
      revert w
      cases one? ss (j : Int) <;> cases one? zs (j : Int) <;> simp
    have b1 := sd_bin h.bin (i := j) (by omega) (by rw [h.len]; omega)
    have b2 := sd_bin g.bin (i := j) (by omega) (by rw [g.len]; omega)
    obtain ⟨h1, e1⟩ := sd_get (ss := ss) (i := j) (by omega) (by rw [h.len]; omega)
    obtain ⟨h2, e2⟩ := sd_get (ss := zs) (i := j) (by omega) (by rw [g.len]; omega)
    have es : sd ss j = sd zs j := by
      unfold one? at e
      rcases b1 with x | x <;> rcases b2 with y | y <;> rw [x, y] at e ⊢ <;> revert e <;> decide
    rw [Int.toNat_natCast] at h1 h2
    rw [List.getElem?_eq_getElem h1, List.getElem?_eq_getElem h2]
    have : ss[j] = zs[j] := by
      have q1 : sd ss j = ss[j] := e1
      have q2 : sd zs j = zs[j] := e2
      rw [← q1, ← q2, es]
    rw [this]
  · rw [List.getElem?_eq_none (by rw [h.len]; omega), List.getElem?_eq_none (by rw [g.len]; omega)]
theorem told_odd {ts : List Tie} {n : Nat} {ss : List Int} (ok : ∀ t ∈ ts, TieOk n t) (h : Told ts n ss) {t : Tie} (ht : t ∈ ts) (hb : brk ss t = true) : Odd ts n := by
  have okt := ok t ht
  obtain ⟨m, l1, r1⟩ := h.each t.one okt.1 okt.2.1
  obtain ⟨m', l2, r2⟩ := h.each t.other okt.2.2.1 okt.2.2.2.1
  have ad : Adj ts t.one t.other t.foe := ⟨t, ht, rfl, .inl ⟨rfl, rfl⟩⟩
  obtain rfl := leader_one l1 l2 (Rch.trans ⟨_, r1⟩ (Rch.adj ad)) ⟨_, r2⟩
  have w := (r1.step ad).trans r2.symm
  refine ⟨m, Rch.rng ok ⟨okt.1, okt.2.1⟩ ⟨_, r1.symm⟩, ?_⟩
  have e : ((one? ss t.one ^^ t.foe) ^^ one? ss t.other) = true := by
    rw [brk_one h.bin (by rw [h.len]; exact okt)] at hb
    revert hb
    cases one? ss t.one <;> cases one? ss t.other <;> cases t.foe <;> simp
  rw [← e]
  exact w
theorem bad_nil {ss : List Int} {ts : List Tie} : bad ss ts = [] ↔ Cons ss ts := by
  unfold bad badTo Cons
  rw [List.filter_eq_nil_iff]
  constructor
  · intro h t ht
    obtain ⟨j, hj⟩ := List.getElem?_of_mem ht
    have hl := (List.getElem?_eq_some_iff.mp hj).1
    have := h j (mem_rng.mpr (by omega))
    rw [tieAt_of hj] at this
    simpa using this
  · intro h i hi
    rw [h _ (tieAt_mem hi)]
    decide
/-! ### groups by their least places, sides along the ties -/
theorem RP.mono {ts ts' : List Tie} (h : ∀ t ∈ ts, t ∈ ts') {a b : Int} {p : Bool} (r : RP ts a b p) : RP ts' a b p := by
  induction r with
  | nil => exact .nil
  | step _ ad ih =>
    obtain ⟨t, ht, e, q⟩ := ad
    exact ih.step ⟨t, h t ht, e, q⟩
def bit (x : Int) : Bool := decide (x = 1)
structure GS (ts : List Tie) (n : Nat) (g s : Int → Int) (good : Bool) : Prop where
  rp : ∀ i : Int, 0 ≤ i → i < n → RP ts (g i) i (bit (s i))
  le : ∀ i : Int, 0 ≤ i → i < n → 0 ≤ g i ∧ g i ≤ i
  bn : ∀ i : Int, 0 ≤ i → i < n → s i = 0 ∨ s i = 1
  eq : ∀ t ∈ ts, g t.one = g t.other
  yes : good = true → ∀ t ∈ ts, (bit (s t.one) ^^ bit (s t.other)) = t.foe
  no : good = false → Odd ts n
theorem GS.nil (n : Nat) : GS [] n (fun i => i) (fun _ => 0) true :=
  ⟨fun i _ _ => .nil, fun i h _ => ⟨h, Int.le_refl _⟩, fun _ _ _ => .inl rfl, fun t h => by simp at h, fun _ t h => by simp at h, fun h => by cases h⟩
theorem GS.same {ts : List Tie} {n : Nat} {g s : Int → Int} {good : Bool} (h : GS ts n g s good) {a b : Int} (r : Rch ts a b) : g a = g b :=
  r.ind (fun x => g a = g x) rfl fun x y k e ad => by
    obtain ⟨t, ht, _, q⟩ := ad
    have := h.eq t ht
    rcases q with ⟨rfl, rfl⟩ | ⟨rfl, rfl⟩
    · rw [e, this]
    · rw [e, this]
theorem GS.lead {ts : List Tie} {n : Nat} {g s : Int → Int} {good : Bool} (ok : ∀ t ∈ ts, TieOk n t) (h : GS ts n g s good) {i : Int} (h0 : 0 ≤ i) (h1 : i < n) : leader ts (g i) := fun q hq => by
  have e1 := h.same hq
  have e2 := h.same (⟨_, h.rp i h0 h1⟩ : Rch ts (g i) i)
  have r := hq.rng ok ⟨(h.le i h0 h1).1, by have := (h.le i h0 h1).2; omega⟩
  have := (h.le q r.1 r.2).2
  omega
def gNew (g : Int → Int) (low high : Int) : Int → Int := fun x => if low < high ∧ g x = high then low else g x
def sNew (g s : Int → Int) (low high turn : Int) : Int → Int := fun x => if low < high ∧ g x = high then (s x + turn) % 2 else s x
theorem bit_add {a b : Int} (ha : a = 0 ∨ a = 1) (hb : b = 0 ∨ b = 1) : bit ((a + b) % 2) = (bit a ^^ bit b) ∧ ((a + b) % 2 = 0 ∨ (a + b) % 2 = 1) := by
  rcases ha with rfl | rfl <;> rcases hb with rfl | rfl <;> decide
theorem GS.step {ts : List Tie} {n : Nat} {g s : Int → Int} {good : Bool} (h : GS ts n g s good) (okts : ∀ t ∈ ts, TieOk n t) {t : Tie} (ok : TieOk n t) {low high turn : Int} (hlow : low = min (g t.one) (g t.other)) (hhigh : high = max (g t.one) (g t.other)) (ht : turn = (s t.one + s t.other + (if t.foe = true then 1 else 0)) % 2) :
    GS (ts ++ [t]) n (gNew g low high) (sNew g s low high turn) (if low = high then good && decide (turn = 0) else good) := by
  have mono : ∀ x ∈ ts, x ∈ ts ++ [t] := fun x hx => List.mem_append_left _ hx
  have ad : Adj (ts ++ [t]) t.one t.other t.foe := ⟨t, by simp, rfl, .inl ⟨rfl, rfl⟩⟩
  have r1 := (h.rp t.one ok.1 ok.2.1).mono mono
  have r2 := (h.rp t.other ok.2.2.1 ok.2.2.2.1).mono mono
  have b1 := h.bn t.one ok.1 ok.2.1
  have b2 := h.bn t.other ok.2.2.1 ok.2.2.2.1
  have bt : bit turn = ((bit (s t.one) ^^ bit (s t.other)) ^^ t.foe) ∧ (turn = 0 ∨ turn = 1) := by
    rw [ht]
    rcases b1 with e | e <;> rcases b2 with e' | e' <;> rw [e, e'] <;> cases t.foe <;> decide
  have cross : low < high → RP (ts ++ [t]) low high (bit turn) := fun hl => by
    by_cases hc : g t.one ≤ g t.other
    · have e1 : low = g t.one := by omega
      have e2 : high = g t.other := by omega
      have w := (r1.step ad).trans r2.symm
      rw [e1, e2, bt.1]
      rw [show ((bit (s t.one) ^^ bit (s t.other)) ^^ t.foe) = ((bit (s t.one) ^^ t.foe) ^^ bit (s t.other)) from by cases bit (s t.one) <;> cases bit (s t.other) <;> cases t.foe <;> rfl]
      exact w
    · have e1 : low = g t.other := by omega
      have e2 : high = g t.one := by omega
      have w := (r2.step ad.symm).trans r1.symm
      rw [e1, e2, bt.1]
      rw [show ((bit (s t.one) ^^ bit (s t.other)) ^^ t.foe) = ((bit (s t.other) ^^ t.foe) ^^ bit (s t.one)) from by cases bit (s t.one) <;> cases bit (s t.other) <;> cases t.foe <;> rfl]
      exact w
  refine ⟨fun i h0 h1 => ?_, fun i h0 h1 => ?_, fun i h0 h1 => ?_, fun x hx => ?_, fun hg x hx => ?_, fun hg => ?_⟩
  · unfold gNew sNew
    by_cases hc : low < high ∧ g i = high
    · rw [if_pos hc, if_pos hc, (bit_add (h.bn i h0 h1) bt.2).1, Bool.xor_comm]
      have w := (h.rp i h0 h1).mono mono
      rw [hc.2] at w
      exact (cross hc.1).trans w
    · rw [if_neg hc, if_neg hc]
      exact (h.rp i h0 h1).mono mono
  · unfold gNew
    have l := h.le i h0 h1
    have l1 := h.le t.one ok.1 ok.2.1
    have l2 := h.le t.other ok.2.2.1 ok.2.2.2.1
    split
    · omega
    · exact l
  · unfold sNew
    split
    · exact (bit_add (h.bn i h0 h1) bt.2).2
    · exact h.bn i h0 h1
  · unfold gNew
    rcases List.mem_append.mp hx with hx | hx
    · rw [h.eq x hx]
    · rw [List.mem_singleton.mp hx]
      split <;> split <;> omega
  · rcases List.mem_append.mp hx with hx | hx
    · have hgood : good = true := by
        by_cases e : low = high
        · rw [if_pos e] at hg
          revert hg
          cases good <;> simp
        · rw [if_neg e] at hg
          exact hg
      have q := h.yes hgood x hx
      have e := h.eq x hx
      unfold sNew
      by_cases hc : low < high ∧ g x.one = high
      · have hc' : low < high ∧ g x.other = high := ⟨hc.1, by rw [← e]; exact hc.2⟩
        have okx := okts x hx
        rw [if_pos hc, if_pos hc', (bit_add (h.bn x.one okx.1 okx.2.1) bt.2).1, (bit_add (h.bn x.other okx.2.2.1 okx.2.2.2.1) bt.2).1, ← q]
        cases bit (s x.one) <;> cases bit (s x.other) <;> cases bit turn <;> rfl
      · have hc' : ¬ (low < high ∧ g x.other = high) := fun z => hc ⟨z.1, by rw [e]; exact z.2⟩
        rw [if_neg hc, if_neg hc']
        exact q
    · rw [List.mem_singleton.mp hx]
      unfold sNew
      by_cases e : low = high
      · rw [if_pos e] at hg
        have h0 : turn = 0 := by
          revert hg
          cases good <;> simp
        rw [if_neg (by omega), if_neg (by omega)]
        have z := bt.1
        rw [h0] at z
        revert z
        cases bit (s t.one) <;> cases bit (s t.other) <;> cases t.foe <;> decide
      · have hlt : low < high := by omega
        by_cases hc : g t.one ≤ g t.other
        · rw [if_neg (by omega), if_pos ⟨hlt, by omega⟩, (bit_add b2 bt.2).1, bt.1]
          cases bit (s t.one) <;> cases bit (s t.other) <;> cases t.foe <;> rfl
        · rw [if_pos ⟨hlt, by omega⟩, if_neg (by omega), (bit_add b1 bt.2).1, bt.1]
          cases bit (s t.one) <;> cases bit (s t.other) <;> cases t.foe <;> rfl
  · have old : good = false → Odd (ts ++ [t]) n := fun e => by
      obtain ⟨x, hx, r⟩ := h.no e
      exact ⟨x, hx, r.mono mono⟩
    by_cases e : low = high
    · rw [if_pos e] at hg
      cases hgood : good
      · exact old hgood
      · rw [hgood] at hg
        have h1 : turn = 1 := by
          rcases bt.2 with z | z
          · rw [z] at hg
            cases hg
          · exact z
        have eg : g t.one = g t.other := by omega
        have w := (r1.step ad).trans (eg ▸ r2).symm
        refine ⟨g t.one, ?_, ?_⟩
        · have := h.le t.one ok.1 ok.2.1
          have := ok.2.1
          omega
        · have z := bt.1
          rw [h1] at z
          rw [show ((bit (s t.one) ^^ t.foe) ^^ bit (s t.other)) = true from by
            revert z
            cases bit (s t.one) <;> cases bit (s t.other) <;> cases t.foe <;> decide] at w
          exact w
    · rw [if_neg e] at hg
      exact old hg
/-! ### len(set(t)) of a tuple of ints -/
theorem sub_len : ∀ {ks ns : List Int}, ks.Nodup → (∀ x ∈ ks, x ∈ ns) → ks.length ≤ ns.length
  | [], _, _, _ => Nat.zero_le _
  | k :: ks, ns, nd, h => by
    rw [List.nodup_cons] at nd
    have hk := h k (by simp)
    have q := sub_len (ks := ks) (ns := ns.erase k) nd.2 fun x hx => (List.mem_erase_of_ne (fun z => nd.1 (by rw [← z]; exact hx))).mpr (h x (List.mem_cons_of_mem _ hx))
    rw [List.length_erase_of_mem hk] at q
    have : 0 < ns.length := List.length_pos_of_mem hk
    rw [List.length_cons]
    omega
theorem twice : ∀ {ns : List Int}, ¬ ns.Nodup → ∃ x, x ∈ ns ∧ x ∈ ns.erase x
  | [], h => absurd List.nodup_nil h
  | y :: l, h => by
    by_cases hy : y ∈ l
    · exact ⟨y, by simp, by rw [List.erase_cons_head]; exact hy⟩
    · have hl : ¬ l.Nodup := fun z => h (List.nodup_cons.mpr ⟨hy, z⟩)
      obtain ⟨x, h1, h2⟩ := twice hl
      refine ⟨x, List.mem_cons_of_mem _ h1, ?_⟩
      have ne : y ≠ x := fun z => hy (by rw [z]; exact h1)
      rw [List.erase_cons_tail (by simpa using ne)]
      exact List.mem_cons_of_mem _ h2
theorem many_iff {ks ns : List Int} (nd : ks.Nodup) (h : ∀ x, x ∈ ns ↔ x ∈ ks) : ks.length = ns.length ↔ ns.Nodup := by
  constructor
  · intro e
    by_cases hn : ns.Nodup
    · exact hn
    · obtain ⟨x, h1, h2⟩ := twice hn
      have q := sub_len (ns := ns.erase x) nd fun y hy => by
        by_cases e2 : y = x
        · rw [e2]
          exact h2
        · exact (List.mem_erase_of_ne e2).mpr ((h y).mpr hy)
      rw [List.length_erase_of_mem h1] at q
      have : 0 < ns.length := List.length_pos_of_mem h1
      omega
  · intro hn
    have q1 := sub_len nd fun y hy => (h y).mpr hy
    have q2 := sub_len hn fun y hy => (h y).mp hy
    omega
def tLenSet (K : PySem.W.Frag) (ta : TE) : TE := fun σ H Q => ta σ H fun x H1 => ∃ (l : Addr) (ns : List Int), x = .ref l ∧ SqT K H1 l (ns.map V.int) ∧ ns.length ≤ 4000 ∧ ∀ c : Nat, (c = ns.length ↔ ns.Nodup) → Q (.int c) H1
theorem pe_lenSetT {X : Cx} {a : Expr} {ta : TE} {p p2 q pos : Pos} (hg : Gl X "len") (hm : X.mg "len" = none) (hg2 : Gl X "set") (hm2 : X.mg "set" = none) (ha : PE X a ta) (hc : X.calm = true := by rfl)
    (na : starEach [a] X.env = (false, eval a X.env) :: starEach [] X.env := by rfl) : PE X (.Call (.Name "len" p) [.Call (.Name "set" p2) [a] [] q] [] pos) (tLenSet X.K ta) := by
  refine ⟨fun pins s σ H Q I want => Call_ (ld_blt I hg hm PySem.boot_len (PyProof.Rows.callWith_builtin1 (PyProof.Rows.args_cons (Call_ (ld_blt I hg2 hm2 PyProof.Rows.boot_set (PyProof.Rows.callWith_type1 (PyProof.Rows.args_cons (thn (ha.run pins s σ H _ I want) fun v s1 got => PyProof.Rows.args_nil ?_) na) na rfl))) rfl) rfl rfl))⟩
  obtain ⟨x, H1, J, r1, l, ns, ex, hq, hl, q1⟩ := got
  subst ex
  obtain rfl : v = Value.ref l := r1
  obtain ⟨its, rel, tup, _⟩ := J.tuple hq
  refine call_set_tupI ns (J.ok.hd hc) tup (by simpa using rel.ints) (by unfold scanBound; omega) fun h' tk c hS hcl kp => PyProof.Rows.args_nil ?_
  obtain ⟨o, es, ep, t, ho, hex, hd, _, nd, mem, _, hf, hn, _⟩ := hS
  have J2 : Inv X pins σ H1 { s1 with heap := h', toks := tk } := J.kept kp
  have len : (es.toList.map keyOf).length = c := by rw [List.length_map, Array.length_toList, hn]
  have key : c = ns.length ↔ ns.Nodup := by
    rw [← len]
    refine many_iff nd fun y => ?_
    rw [← mem y, decide_eq_true_iff]
  exact call_len_set ho hex hd hf (by omega) ⟨.int c, H1, J2.tok _, ⟨_, by rw [hn]⟩, q1 c key⟩
/-! ### ties around places, by their numbers (mathematics) -/
def Jn (t : Tie) (a b : Int) : Prop := (t.one = a ∧ t.other = b) ∨ (t.one = b ∧ t.other = a)
theorem Jn.symm {t : Tie} {a b : Int} (h : Jn t a b) : Jn t b a := h.elim .inr .inl
abbrev Nu := Int × Int
def n1 (ts : List Tie) (m : Int) (p : Int) : List Nu := (if p = (tieN ts m.toNat).one then [((tieN ts m.toNat).other, m)] else []) ++ (if p = (tieN ts m.toNat).other then [((tieN ts m.toNat).one, m)] else [])
def nN (ts : List Tie) (ns : List Int) (p : Int) : List Nu := ns.flatMap fun m => n1 ts m p
theorem nN_snoc (ts : List Tie) (ns : List Int) (m p : Int) : nN ts (ns ++ [m]) p = nN ts ns p ++ n1 ts m p := by
  unfold nN
  rw [List.flatMap_append]
  simp
theorem n1_len (ts : List Tie) (m p : Int) : (n1 ts m p).length ≤ 2 := by
  unfold n1
  rw [List.length_append]
  split <;> split <;> simp
theorem nN_len (ts : List Tie) (ns : List Int) (p : Int) : (nN ts ns p).length ≤ 2 * ns.length := by
  induction ns with
  | nil => simp [nN]
  | cons m ns ih =>
    have h := n1_len ts m p
    unfold nN at ih ⊢
    rw [List.flatMap_cons, List.length_append, List.length_cons]
    omega
theorem mem_nN {ts : List Tie} {ns : List Int} {p : Int} {q : Nu} : q ∈ nN ts ns p ↔ q.2 ∈ ns ∧ Jn (tieN ts q.2.toNat) p q.1 := by
  unfold nN n1 Jn
  rw [List.mem_flatMap]
  constructor
  · rintro ⟨m, hm, h⟩
    rcases List.mem_append.mp h with h | h
    · split at h
      · rename_i e
        rw [List.mem_singleton] at h
        subst h
        exact ⟨hm, .inl ⟨e.symm, rfl⟩⟩
      · simp at h
    · split at h
      · rename_i e
        rw [List.mem_singleton] at h
        subst h
        exact ⟨hm, .inr ⟨rfl, e.symm⟩⟩
      · simp at h
  · rintro ⟨hm, h⟩
    refine ⟨q.2, hm, List.mem_append.mpr ?_⟩
    obtain ⟨q1, q2⟩ := q
    simp only at h
    rcases h with ⟨h1, h2⟩ | ⟨h1, h2⟩
    · left
      rw [if_pos h1.symm, List.mem_singleton, ← h2]
    · right
      rw [if_pos h2.symm, List.mem_singleton, ← h1]
def NuV (H : Hp) (v : V) (q : Nu) : Prop := ∃ a, v = .ref a ∧ H a = some (.tup [.int q.1, .int q.2])
theorem NuV.tk {H H' : Hp} (k : Tk H H') {v : V} {p : Nu} (h : NuV H v p) : NuV H' v p := by
  obtain ⟨a, rfl, e⟩ := h
  exact ⟨a, rfl, k _ _ e⟩
theorem nus_tk {H H' : Hp} (k : Tk H H') {vs : List V} {qs : List Nu} (h : Paired (NuV H) vs qs) : Paired (NuV H') vs qs := Paired.mono (fun _ _ x => x.tk k) h
def aKv (As : List (Int × Addr)) : List (Key × V) := As.map fun p => (Sum.inl p.1, V.ref p.2)
theorem aKv_none {z : Int} : ∀ {As : List (Int × Addr)}, z ∉ As.map (·.1) → valV (aKv As) (Sum.inl z) = none
  | [], _ => rfl
  | p :: As, h => by
    rw [List.map_cons, List.mem_cons, not_or] at h
    have e := aKv_none (As := As) h.2
    have h1 := h.1
    unfold aKv at e ⊢
    rw [List.map_cons, valV_neg (fun z => h1 (Sum.inl.inj z).symm)]
    exact e
theorem aKv_some {z : Int} {a : Addr} : ∀ {As : List (Int × Addr)}, (As.map (·.1)).Nodup → (z, a) ∈ As → valV (aKv As) (Sum.inl z) = some (.ref a)
  | p :: As, nd, h => by
    rw [List.map_cons, List.nodup_cons] at nd
    rcases List.mem_cons.mp h with e | e
    · subst e
      unfold aKv
      rw [List.map_cons, valV_pos rfl]
    · have q := aKv_some (As := As) nd.2 e
      have ne : p.1 ≠ z := fun y => nd.1 (by rw [y]; exact List.mem_map.mpr ⟨_, e, rfl⟩)
      unfold aKv at q ⊢
      rw [List.map_cons, valV_neg (fun y => ne (Sum.inl.inj y))]
      exact q
theorem aKv_put {As : List (Int × Addr)} {z : Int} {a : Addr} (h : z ∉ As.map (·.1)) : putK (aKv As) (Sum.inl z) (.ref a) = aKv (As ++ [(z, a)]) := by
  unfold putK
  rw [if_neg]
  · unfold aKv
    rw [List.map_append]
    rfl
  · intro g
    rw [List.any_eq_true] at g
    obtain ⟨kv, h1, h2⟩ := g
    unfold aKv at h1
    rw [List.mem_map] at h1
    obtain ⟨p, hp, rfl⟩ := h1
    exact h (List.mem_map.mpr ⟨p, hp, Sum.inl.inj (of_decide_eq_true h2)⟩)
theorem aKv_len (As : List (Int × Addr)) : (aKv As).length = As.length := by unfold aKv; rw [List.length_map]
theorem aKv_cases (As : List (Int × Addr)) (z : Int) (nd : (As.map (·.1)).Nodup) : (z ∉ As.map (·.1) ∧ valV (aKv As) (Sum.inl z) = none) ∨ ∃ a, (z, a) ∈ As ∧ valV (aKv As) (Sum.inl z) = some (.ref a) := by
  by_cases h : z ∈ As.map (·.1)
  · obtain ⟨p, hp, rfl⟩ := List.mem_map.mp h
    exact .inr ⟨p.2, hp, aKv_some nd hp⟩
  · exact .inl ⟨h, aKv_none h⟩
/-- a dict of lists of (place, number) -/
structure Aro (H : Hp) (D : Addr) (As : List (Int × Addr)) (N : Int → List Nu) : Prop where
  at' : H D = some (.dK (aKv As))
  nd : (As.map (·.1)).Nodup
  nd2 : (As.map (·.2)).Nodup
  each : ∀ p ∈ As, ∃ vs, H p.2 = some (.lst vs) ∧ Paired (NuV H) vs (N p.1)
  no : ∀ q, q ∉ As.map (·.1) → N q = []
theorem Aro.same {H H' : Hp} {D : Addr} {As : List (Int × Addr)} {N : Int → List Nu} (h : Aro H D As N) (s : Same H H') : Aro H' D As N :=
  ⟨s _ _ h.at', h.nd, h.nd2, fun p hp => by
    obtain ⟨vs, h1, h2⟩ := h.each p hp
    exact ⟨vs, s _ _ h1, nus_tk (Same.tk s) h2⟩, h.no⟩
theorem Aro.out {H : Hp} {D : Addr} {As : List (Int × Addr)} {N : Int → List Nu} (h : Aro H D As N) {p : Int × Addr} (hp : p ∈ As) : p.2 ≠ D := by
  obtain ⟨vs, h1, _⟩ := h.each p hp
  exact ne_of h1 h.at' (by intro z; cases z)
/-- a place more, with nothing yet -/
theorem Aro.more {H : Hp} {D a : Addr} {As : List (Int × Addr)} {N : Int → List Nu} {z : Int} (h : Aro H D As N) (hz : z ∉ As.map (·.1)) (ha : H a = some (.lst [])) (hn : a ∉ As.map (·.2)) : Aro (upd H D (.dK (aKv (As ++ [(z, a)])))) D (As ++ [(z, a)]) N := by
  have haD : a ≠ D := ne_of ha h.at' (by intro z; cases z)
  have k : Tk H (upd H D (.dK (aKv (As ++ [(z, a)])))) := fun b xs e => by
    rw [upd_ne (ne_of e h.at' (by intro z; cases z))]
    exact e
  refine ⟨upd_same, ?_, ?_, fun p hp => ?_, fun q hq => ?_⟩
  · rw [List.map_append, List.nodup_append]
    refine ⟨h.nd, by simp, fun x hx y hy e => ?_⟩
    simp only [List.map_cons, List.map_nil, List.mem_singleton] at hy
    subst hy
    subst e
    exact hz hx
  · rw [List.map_append, List.nodup_append]
    refine ⟨h.nd2, by simp, fun x hx y hy e => ?_⟩
    simp only [List.map_cons, List.map_nil, List.mem_singleton] at hy
    subst hy
    subst e
    exact hn hx
  · rcases List.mem_append.mp hp with hp | hp
    · obtain ⟨vs, h1, h2⟩ := h.each p hp
      exact ⟨vs, by rw [upd_ne (h.out hp)]; exact h1, nus_tk k h2⟩
    · rw [List.mem_singleton] at hp
      subst hp
      refine ⟨[], by rw [upd_ne haD]; exact ha, ?_⟩
      rw [show N (z, a).1 = [] from h.no z hz]
      exact .nil
  · rw [List.map_append, List.mem_append, not_or] at hq
    exact h.no q hq.1
theorem Aro.put {H : Hp} {D a c : Addr} {As : List (Int × Addr)} {N : Int → List Nu} {z : Int} {vs : List V} {q : Nu} (h : Aro H D As N) (hz : (z, a) ∈ As) (hv : H a = some (.lst vs)) (hc : NuV H (.ref c) q) : Aro (upd H a (.lst (vs ++ [.ref c]))) D As (fun p => N p ++ if p = z then [q] else []) := by
  have k : Tk H (upd H a (.lst (vs ++ [.ref c]))) := tk_lst hv
  refine ⟨by rw [upd_ne (Ne.symm (h.out hz))]; exact h.at', h.nd, h.nd2, fun p hp => ?_, fun y hy => ?_⟩
  · obtain ⟨us, h1, h2⟩ := h.each p hp
    by_cases e : p.1 = z
    · have e2 : p.2 = a := by
        obtain ⟨i, hi, rfl⟩ := List.getElem_of_mem hp
        obtain ⟨j, hj, ej⟩ := List.getElem_of_mem hz
        have w : i = j := by
          have e3 : (As.map (·.1))[i]? = (As.map (·.1))[j]? := by
            rw [List.getElem?_map, List.getElem?_map, List.getElem?_eq_getElem hi, List.getElem?_eq_getElem hj, ej]
            exact congrArg some e
          exact (List.getElem?_inj (by rw [List.length_map]; exact hi) h.nd).mp e3
        subst w
        rw [ej]
      rw [e2] at h1 ⊢
      rw [hv] at h1
      cases h1
      refine ⟨_, upd_same, ?_⟩
      rw [if_pos e]
      exact Paired.snoc (nus_tk k h2) (hc.tk k)
    · have e2 : p.2 ≠ a := fun y => e (by
        obtain ⟨i, hi, rfl⟩ := List.getElem_of_mem hp
        obtain ⟨j, hj, ej⟩ := List.getElem_of_mem hz
        have w : i = j := by
          have e3 : (As.map (·.2))[i]? = (As.map (·.2))[j]? := by
            rw [List.getElem?_map, List.getElem?_map, List.getElem?_eq_getElem hi, List.getElem?_eq_getElem hj, ej]
            exact congrArg some y
          exact (List.getElem?_inj (by rw [List.length_map]; exact hi) h.nd2).mp e3
        subst w
        rw [ej])
      refine ⟨us, by rw [upd_ne e2]; exact h1, ?_⟩
      rw [if_neg e, List.append_nil]
      exact nus_tk k h2
  · have ne : y ≠ z := fun e => hy (by rw [e]; exact List.mem_map.mpr ⟨_, hz, rfl⟩)
    rw [h.no y hy, if_neg ne]
    rfl
def AroAt (H : Hp) (v : V) (N : Int → List Nu) : Prop := ∃ D As, v = .ref D ∧ Aro H D As N
def spAround : Sp := fun vs H Q _ => ∃ (v : V) (b : Addr) (n : Int) (ts : List Tie) (ns : List Int), vs = [v, .ref b] ∧ WebAt H v n ts ∧ ts.length ≤ 130 ∧ H b = some (.lst (ns.map V.int)) ∧ ns.length ≤ 130 ∧ (∀ m ∈ ns, 0 ≤ m ∧ m < (ts.length : Int)) ∧
  ∀ u H', Same H H' → AroAt H' u (nN ts ns) → Q u H'
section
variable {P : Program} {w : World} {K : PySem.W.Frag} {mg : Str → Option Value} {base : Heap}
theorem ok_ties_around {f : Addr} {fd : FuncData} (F : Fun K "ties_around" "ties_around" s_ties_around f fd) : FnOk P w K mg base CX0 1 f fd ["web", "numbers"] spAround := by
  refine F.ok sc_ties_around (fun vs H Q E h => ?_) (fun cdv A outer s H vs Q E hr h => ?_)
  · obtain ⟨v, b, n, ts, ns, rfl, _⟩ := h
    rfl
  · obtain ⟨v, b, n, ts, ns, rfl, ⟨wa, wb, us, rfl, hwa, hwb, hp⟩, few, hb, fewn, okn, q⟩ := h
    refine ⟨_, (pss_cons (ps_set (i := 2) sc_ties_around.nd rfl (.inl rfl) pe_dnewK)
      (pss_cons (ps_for PassesOwn.never rfl (pi_list (pv 1)) (pg_name (i := 3) sc_ties_around.nd rfl (.inl rfl))
        (pss_cons (ps_asg (pe_ix ix_tup (pe_ix ix_tup (pv 0) pe_int (fun _ _ => rfl)) (pv 3) (fun _ _ => rfl)) (pg_tup rfl (pgs_cons (pg_name (i := 4) sc_ties_around.nd rfl (.inl rfl)) (pgs_cons (pg_name (i := 5) sc_ties_around.nd rfl (.inl rfl)) (pgs_cons (pg_name (i := 6) sc_ties_around.nd rfl (.inl rfl)) pgs_nil)))))
        (Evl.pss_cut (ps_expr (pe_bm PySem.F.plainAttrs_list PySem.F.slot_list_append PySem.F.type_list_append mt_append (pe_dsetd (pv 2) (pv 4) (pe_lst pa_nil) ⟨rfl, rfl, rfl, rfl⟩) (pa_cons (pe_tup (pa_cons (pv 5) (pa_cons (pv 3) pa_nil))) pa_nil)))
        (pss_one (ps_expr (pe_bm PySem.F.plainAttrs_list PySem.F.slot_list_append PySem.F.type_list_append mt_append (pe_dsetd (pv 2) (pv 5) (pe_lst pa_nil) ⟨rfl, rfl, rfl, rfl⟩) (pa_cons (pe_tup (pa_cons (pv 4) (pa_cons (pv 3) pa_nil))) pa_nil)))))))
      (pss_one (ps_ret (pv 2))))), ?_⟩
    have hlen : us.length = ts.length := Paired.length hp
    refine fun D nD => ⟨.ref b, rfl, b, rfl, ⟨_, SqL.of (same_new nD _ _ hb)⟩, ?_⟩
    -- a tie's one end
    have put : ∀ {H1 : Hp} {As : List (Int × Addr)} {N : Int → List Nu} {x y m : Int} (k : Hp → Prop), Same H H1 → Aro H1 D As N → (∀ p ∈ As, H p.2 = none) → As.length ≤ 500 → (∀ z, (N z).length ≤ 500) →
        (∀ H2 As2, Same H H2 → Aro H2 D As2 (fun p => N p ++ if p = x then [(y, m)] else []) → (∀ p ∈ As2, H p.2 = none) → As2.length ≤ As.length + 1 → k H2) →
        ∀ e, H1 e = none → ∃ (kvs : List (Key × V)) (kk : Key), (upd H1 e (.lst [])) D = some (.dK kvs) ∧ V.int x = kV kk ∧ kvs.length < sizeLine ∧ (∀ v, valV kvs kk = some v → (tyV K "list" v (upd H1 e (.lst [])) ∧ (2 ≤ sizeLine ∧ ∀ p, (upd H1 e (.lst [])) p = none → ∃ l xs z, v = .ref l ∧ [V.ref p] = [z] ∧ (upd (upd H1 e (.lst [])) p (.tup [.int y, .int m])) l = some (.lst xs) ∧ xs.length < sizeLine ∧ k (upd (upd (upd H1 e (.lst [])) p (.tup [.int y, .int m])) l (.lst (xs ++ [z])))))) ∧
          (valV kvs kk = none → (tyV K "list" (.ref e) (upd (upd H1 e (.lst [])) D (.dK (putK kvs kk (.ref e)))) ∧ (2 ≤ sizeLine ∧ ∀ p, (upd (upd H1 e (.lst [])) D (.dK (putK kvs kk (.ref e)))) p = none → ∃ l xs z, V.ref e = .ref l ∧ [V.ref p] = [z] ∧ (upd (upd (upd H1 e (.lst [])) D (.dK (putK kvs kk (.ref e)))) p (.tup [.int y, .int m])) l = some (.lst xs) ∧ xs.length < sizeLine ∧ k (upd (upd (upd (upd H1 e (.lst [])) D (.dK (putK kvs kk (.ref e)))) p (.tup [.int y, .int m])) l (.lst (xs ++ [z])))))) := by
      intro H1 As N x y m k s1 hA hf la ln fin e ne
      have sE := same_new (o := .lst []) ne
      have A1 := hA.same sE
      have ne0 : H e = none := s1.free ne
      have heA : e ∉ As.map (·.2) := fun z => by
        obtain ⟨p, hp, ep⟩ := List.mem_map.mp z
        obtain ⟨vs, h1, _⟩ := hA.each p hp
        rw [ep, ne] at h1
        cases h1
      have nD1 : H1 D = some (.dK (aKv As)) := hA.at'
      have heD : e ≠ D := (ne_of_none nD1 ne).symm
      refine ⟨aKv As, Sum.inl x, A1.at', rfl, by rw [aKv_len]; exact small1000 (by omega), fun v hv => ?_, fun hv => ?_⟩
      · rcases aKv_cases As x hA.nd with ⟨_, h⟩ | ⟨a, ha, h⟩
        · rw [h] at hv; cases hv
        · rw [h] at hv
          cases hv
          obtain ⟨vs, g1, g2⟩ := A1.each _ ha
          refine ⟨.inl ⟨rfl, _, SqL.of g1⟩, by decide, fun p np => ⟨a, vs, .ref p, rfl, rfl, same_new np _ _ g1, ?_, ?_⟩⟩
          · have : (N (x, a).1).length ≤ 500 := ln x
            rw [Paired.length g2]
            exact small1000 (by omega)
          · have sP := same_new (o := .tup [.int y, .int m]) np
            have A2 := A1.same sP
            refine fin _ As (Same.mut (s1.trans (sE.trans sP)) (hf _ ha)) (A2.put ha (sP _ _ g1) ⟨p, rfl, upd_same⟩) hf (Nat.le_succ _)
      · rcases aKv_cases As x hA.nd with ⟨hx, _⟩ | ⟨a, ha, h⟩
        · rw [aKv_put hx]
          have A2 := A1.more hx upd_same heA
          have hE : (upd (upd H1 e (.lst [])) D (.dK (aKv (As ++ [(x, e)])))) e = some (.lst []) := by rw [upd_ne heD]; exact upd_same
          refine ⟨.inl ⟨rfl, _, SqL.of hE⟩, by decide, fun p np => ⟨e, [], .ref p, rfl, rfl, same_new np _ _ hE, by decide, ?_⟩⟩
          have sP := same_new (o := .tup [.int y, .int m]) np
          have A3 := A2.same sP
          have nD0 : H D = none := nD
          refine fin _ (As ++ [(x, e)]) (Same.mut ((Same.mut (s1.trans sE) nD0).trans sP) ne0) (A3.put (List.mem_append_right _ (by simp)) (sP _ _ hE) ⟨p, rfl, upd_same⟩) (fun p hp => ?_) (by rw [List.length_append]; exact Nat.le_refl _)
          rcases List.mem_append.mp hp with h | h
          · exact hf p h
          · rw [List.mem_singleton.mp h]
            exact ne0
        · rw [h] at hv; cases hv
    refine for_list (xs := ns.map V.int) (fun i σ' H' => ∃ (y3 y4 y5 y6 : Option V) (As : List (Int × Addr)), σ' = [some (.ref wa), some (.ref b), some (.ref D), y3, y4, y5, y6] ∧ Aro H' D As (nN ts (ns.take i)) ∧ (∀ p ∈ As, H p.2 = none) ∧ As.length ≤ 2 * i ∧ Same H H') ⟨none, none, none, none, [], rfl, ⟨upd_same, List.nodup_nil, List.nodup_nil, fun p hp => by simp at hp, fun q _ => rfl⟩, fun p hp => by simp at hp, Nat.le_refl _, same_new nD⟩ (fun i σ' H' _ h => by
      obtain ⟨_, _, _, _, _, _, _, _, _, s⟩ := h
      exact SqL.of (s _ _ hb)) ?_ ?_
    · rintro i x σ' H1 ex ⟨y3, y4, y5, y6, As, rfl, hA, hf, la, s1⟩
      rw [List.getElem?_map] at ex
      obtain ⟨m, em, rfl⟩ := Option.map_eq_some_iff.mp ex
      have hi : i < ns.length := (List.getElem?_eq_some_iff.mp em).1
      have om := okn m (List.mem_of_getElem? em)
      obtain ⟨vv, e1, e2⟩ := getI (xs := us) om.1 (by omega)
      obtain ⟨t, et, c, rfl, hc⟩ := Paired.at hp e2
      have etn := tieN_of et
      refine ⟨.ref wa, rfl, wa, _, 1, .ref wb, rfl, rfl, SqT.of (s1 _ _ hwa), rfl, .int m, rfl, wb, us, m, .ref c, rfl, rfl, SqT.of (s1 _ _ hwb), e1, c, _, rfl, SqT.of (s1 _ _ hc), rfl, _, _, rfl, _, _, rfl, _, _, rfl, rfl, ?_⟩
      have lN : ∀ z, (nN ts (ns.take i) z).length ≤ 260 := fun z => by
        have := nN_len ts (ns.take i) z
        rw [List.length_take] at this
        omega
      refine ⟨fun σ' H' => ∃ As, σ' = [some (.ref wa), some (.ref b), some (.ref D), some (.int m), some (.int t.one), some (.int t.other), some (.str (kindS t.foe))] ∧ Aro H' D As (fun p => nN ts (ns.take i) p ++ if p = t.one then [(t.other, m)] else []) ∧ (∀ p ∈ As, H p.2 = none) ∧ As.length ≤ 2 * i + 1 ∧ Same H H', ?_, ?_⟩
      · refine ⟨.ref D, rfl, D, rfl, .inl ⟨_, .inl hA.at'⟩, .int t.one, rfl, Nat.zero_le _, fun e ne => ?_⟩
        obtain ⟨kvs, kk, w1, w2, w3, w4, w5⟩ := put (x := t.one) (y := t.other) (m := m) (fun H' => ∃ As, [some (V.ref wa), some (.ref b), some (.ref D), some (.int m), some (.int t.one), some (.int t.other), some (.str (kindS t.foe))] = [some (V.ref wa), some (.ref b), some (.ref D), some (.int m), some (.int t.one), some (.int t.other), some (.str (kindS t.foe))] ∧ Aro H' D As (fun p => nN ts (ns.take i) p ++ if p = t.one then [(t.other, m)] else []) ∧ (∀ p ∈ As, H p.2 = none) ∧ As.length ≤ 2 * i + 1 ∧ Same H H') s1 hA hf (by omega) (fun z => by have := lN z; omega) (fun H2 As2 s2 h2 f2 l2 => ⟨As2, rfl, h2, f2, by omega, s2⟩) e ne
        exact ⟨kvs, kk, w1, w2, w3, fun v hv => ⟨(w4 v hv).1, .int t.other, rfl, .int m, rfl, (w4 v hv).2⟩, fun hv => ⟨(w5 hv).1, .int t.other, rfl, .int m, rfl, (w5 hv).2⟩⟩
      · rintro σ' H2 ⟨As2, rfl, hA2, hf2, la2, s2⟩
        refine ⟨.ref D, rfl, D, rfl, .inl ⟨_, .inl hA2.at'⟩, .int t.other, rfl, Nat.zero_le _, fun e ne => ?_⟩
        have q1 : ∀ z, ((fun p => nN ts (ns.take i) p ++ if p = t.one then [(t.other, m)] else []) z).length ≤ 500 := fun z => by
          have := lN z
          rw [List.length_append]
          split <;> simp only [List.length_cons, List.length_nil] <;> omega
        have q2 : ∀ H3 As3, Same H H3 → Aro H3 D As3 (fun p => (nN ts (ns.take i) p ++ if p = t.one then [(t.other, m)] else []) ++ if p = t.other then [(t.one, m)] else []) → (∀ p ∈ As3, H p.2 = none) → As3.length ≤ As2.length + 1 → (fun H' => ∃ (y3 y4 y5 y6 : Option V) (As : List (Int × Addr)), [some (V.ref wa), some (.ref b), some (.ref D), some (.int m), some (.int t.one), some (.int t.other), some (.str (kindS t.foe))] = [some (.ref wa), some (.ref b), some (.ref D), y3, y4, y5, y6] ∧ Aro H' D As (nN ts (ns.take (i + 1))) ∧ (∀ p ∈ As, H p.2 = none) ∧ As.length ≤ 2 * (i + 1) ∧ Same H H') H3 := fun H3 As3 s3 h3 f3 l3 => by
          refine ⟨_, _, _, _, As3, rfl, ?_, f3, by omega, s3⟩
          have eN : nN ts (ns.take (i + 1)) = fun p => (nN ts (ns.take i) p ++ if p = t.one then [(t.other, m)] else []) ++ if p = t.other then [(t.one, m)] else [] := by
            funext p
            rw [take_snoc em, nN_snoc]
            unfold n1
            rw [etn, List.append_assoc]
          rw [eN]
          exact h3
        obtain ⟨kvs, kk, w1, w2, w3, w4, w5⟩ := put (x := t.other) (y := t.one) (m := m) (fun H' => ∃ (y3 y4 y5 y6 : Option V) (As : List (Int × Addr)), [some (V.ref wa), some (.ref b), some (.ref D), some (.int m), some (.int t.one), some (.int t.other), some (.str (kindS t.foe))] = [some (.ref wa), some (.ref b), some (.ref D), y3, y4, y5, y6] ∧ Aro H' D As (nN ts (ns.take (i + 1))) ∧ (∀ p ∈ As, H p.2 = none) ∧ As.length ≤ 2 * (i + 1) ∧ Same H H') s2 hA2 hf2 (by omega) q1 q2 e ne
        exact ⟨kvs, kk, w1, w2, w3, fun v hv => ⟨(w4 v hv).1, .int t.one, rfl, .int m, rfl, (w4 v hv).2⟩, fun hv => ⟨(w5 hv).1, .int t.one, rfl, .int m, rfl, (w5 hv).2⟩⟩
    · rintro σ' H1 ⟨y3, y4, y5, y6, As, rfl, hA, hf, la, s1⟩
      rw [List.length_map, List.take_length] at hA
      exact ⟨.ref D, rfl, q _ _ s1 ⟨D, As, rfl, hA⟩⟩
end
/-! ### ways: what is walked, level by level (mathematics) -/
abbrev We := Int × Nat × Option (Int × Int)
def weL (e : We) : List V := match e.2.2 with
  | none => [.int (e.2.1 : Nat), .non, .non]
  | some f => [.int (e.2.1 : Nat), .int f.1, .int f.2]
/-- the walk, exactly, level by level -/
def stp (p : Int) (L : Nat) (st : List We × List Int) (q : Nu) : List We × List Int := if q.1 ∈ st.1.map (·.1) then st else (st.1 ++ [(q.1, L + 1, some (p, q.2))], st.2 ++ [q.1])
def lvl (N : Int → List Nu) (L : Nat) (st : List We × List Int) : List We × List Int := st.2.foldl (fun st p => (N p).foldl (stp p L) st) (st.1, [])
def Bst (N : Int → List Nu) (s : Int) : Nat → List We × List Int
  | 0 => ([(s, 0, none)], [s])
  | L + 1 => lvl N L (Bst N s L)
def Wlk (N : Int → List Nu) (s : Int) (ws : List We) : Prop := ∃ L, Bst N s L = (ws, [])
theorem Bst.stay {N : Int → List Nu} {s : Int} {ws : List We} {L : Nat} (h : Bst N s L = (ws, [])) : ∀ k, Bst N s (L + k) = (ws, [])
  | 0 => h
  | k + 1 => by
    show lvl N (L + k) (Bst N s (L + k)) = _
    rw [Bst.stay h k]
    rfl
theorem Wlk.one {N : Int → List Nu} {s : Int} {ws ws' : List We} (a : Wlk N s ws) (b : Wlk N s ws') : ws = ws' := by
  obtain ⟨L, h⟩ := a
  obtain ⟨L', h'⟩ := b
  rcases Nat.le_total L L' with e | e
  · obtain ⟨k, rfl⟩ := Nat.exists_eq_add_of_le e
    rw [Bst.stay h k] at h'
    exact (Prod.mk.inj h').1
  · obtain ⟨k, rfl⟩ := Nat.exists_eq_add_of_le e
    rw [Bst.stay h' k] at h
    exact (Prod.mk.inj h).1.symm
structure WF (N : Int → List Nu) (s : Int) (ws : List We) : Prop where
  nd : (ws.map (·.1)).Nodup
  root : (s, 0, none) ∈ ws
  non : ∀ y k, (y, k, none) ∈ ws → y = s ∧ k = 0
  par : ∀ y k p m, (y, k, some (p, m)) ∈ ws → ∃ j f, (p, j, f) ∈ ws ∧ k = j + 1 ∧ (y, m) ∈ N p
  cl : ∀ e ∈ ws, ∀ q ∈ N e.1, ∃ k f, (q.1, k, f) ∈ ws ∧ k ≤ e.2.1 + 1
  ex : Wlk N s ws
structure BF (N : Int → List Nu) (s : Int) (ws : List We) (L : Nat) (todo fol : List Int) : Prop where
  nd : (ws.map (·.1)).Nodup
  root : (s, 0, none) ∈ ws
  non : ∀ y k, (y, k, none) ∈ ws → y = s ∧ k = 0
  par : ∀ y k p m, (y, k, some (p, m)) ∈ ws → ∃ j f, (p, j, f) ∈ ws ∧ k = j + 1 ∧ (y, m) ∈ N p
  lv : ∀ e ∈ ws, e.2.1 ≤ L + 1
  td : ∀ x ∈ todo, ∃ f, (x, L, f) ∈ ws
  dn : ∀ e ∈ ws, e.2.1 ≤ L → e.1 ∈ todo ∨ ∀ q ∈ N e.1, ∃ k f, (q.1, k, f) ∈ ws ∧ k ≤ e.2.1 + 1
  f1 : ∀ x ∈ fol, ∃ f, (x, L + 1, f) ∈ ws
  f2 : ∀ e ∈ ws, e.2.1 = L + 1 → e.1 ∈ fol
  fl : fol.length ≤ ws.length
theorem we_one {ws : List We} (nd : (ws.map (·.1)).Nodup) {x : Int} {k j : Nat} {f g : Option (Int × Int)} (h : (x, k, f) ∈ ws) (h' : (x, j, g) ∈ ws) : k = j ∧ f = g := by
  induction ws with
  | nil => cases h
  | cons e ws ih =>
    rw [List.map_cons, List.nodup_cons] at nd
    rcases List.mem_cons.mp h with a | a <;> rcases List.mem_cons.mp h' with b | b
    · rw [← a] at b
      cases b
      exact ⟨rfl, rfl⟩
    · exact absurd (List.mem_map.mpr ⟨_, b, rfl⟩) (by rw [← a] at nd; exact nd.1)
    · exact absurd (List.mem_map.mpr ⟨_, a, rfl⟩) (by rw [← b] at nd; exact nd.1)
    · exact ih nd.2 a b
theorem we_key {ws : List We} {x : Int} (h : x ∈ ws.map (·.1)) : ∃ k f, (x, k, f) ∈ ws := by
  obtain ⟨⟨y, k, f⟩, he, e⟩ := List.mem_map.mp h
  have e : y = x := e
  subst e
  exact ⟨k, f, he⟩
theorem WF.rg {N : Int → List Nu} {s : Int} {ws : List We} {n : Int} (h : WF N s ws) (hs : 0 ≤ s ∧ s < n) (hN : ∀ x q, q ∈ N x → 0 ≤ q.1 ∧ q.1 < n) {x : Int} (hx : x ∈ ws.map (·.1)) : 0 ≤ x ∧ x < n := by
  obtain ⟨k, f, he⟩ := we_key hx
  cases f with
  | none =>
    rw [(h.non _ _ he).1]
    exact hs
  | some pm =>
    obtain ⟨p, m⟩ := pm
    obtain ⟨j, g, _, _, hm⟩ := h.par _ _ _ _ he
    exact hN p _ hm
theorem BF.rg {N : Int → List Nu} {s : Int} {ws : List We} {L : Nat} {todo fol : List Int} {n : Int} (h : BF N s ws L todo fol) (hs : 0 ≤ s ∧ s < n) (hN : ∀ x q, q ∈ N x → 0 ≤ q.1 ∧ q.1 < n) (x : Int) (hx : x ∈ ws.map (·.1)) : 0 ≤ x ∧ x < n := by
  obtain ⟨k, f, he⟩ := we_key hx
  cases f with
  | none =>
    rw [(h.non _ _ he).1]
    exact hs
  | some pm =>
    obtain ⟨p, m⟩ := pm
    obtain ⟨j, g, _, _, hm⟩ := h.par _ _ _ _ he
    exact hN p _ hm
theorem BF.few {N : Int → List Nu} {s : Int} {ws : List We} {L : Nat} {todo fol : List Int} {n : Nat} (h : BF N s ws L todo fol) (hs : 0 ≤ s ∧ s < n) (hN : ∀ x q, q ∈ N x → 0 ≤ q.1 ∧ q.1 < n) : ws.length ≤ n := by
  have := pigeon n _ h.nd (h.rg hs hN)
  rw [List.length_map] at this
  exact this
theorem BF.start (N : Int → List Nu) (s : Int) : BF N s [(s, 0, none)] 0 [s] [] :=
  ⟨by simp, by simp, fun y k h => by simp at h; exact ⟨h.1, h.2⟩, fun y k p m h => by simp at h, fun e h => by rw [List.mem_singleton.mp h]; simp, fun x h => ⟨none, by rw [List.mem_singleton.mp h]; simp⟩, fun e h _ => .inl (by rw [List.mem_singleton.mp h]; simp), fun x h => by simp at h, fun e h z => by rw [List.mem_singleton.mp h] at z; simp at z, by simp⟩
theorem BF.stop {N : Int → List Nu} {s : Int} {ws : List We} {L : Nat} (h : BF N s ws L [] []) (hx : Wlk N s ws) : WF N s ws :=
  ⟨h.nd, h.root, h.non, h.par, fun e he => by
    have h1 := h.lv e he
    have h2 : e.2.1 ≤ L := by
      by_cases z : e.2.1 = L + 1
      · exact absurd (h.f2 e he z) (by simp)
      · omega
    exact (h.dn e he h2).resolve_left (by simp), hx⟩
theorem BF.next {N : Int → List Nu} {s : Int} {ws : List We} {L : Nat} {fol : List Int} (h : BF N s ws L [] fol) : BF N s ws (L + 1) fol [] :=
  ⟨h.nd, h.root, h.non, h.par, fun e he => by have := h.lv e he; omega, h.f1, fun e he hl => by
    by_cases z : e.2.1 = L + 1
    · exact .inl (h.f2 e he z)
    · exact .inr ((h.dn e he (by omega)).resolve_left (by simp)), fun x hx => by simp at hx, fun e he z => by have := h.lv e he; omega, by simp⟩
theorem BF.push {N : Int → List Nu} {s p y m : Int} {ws : List We} {L : Nat} {todo fol : List Int} {f : Option (Int × Int)} (h : BF N s ws L todo fol) (hp : (p, L, f) ∈ ws) (hm : (y, m) ∈ N p) (hy : y ∉ ws.map (·.1)) : BF N s (ws ++ [(y, L + 1, some (p, m))]) L todo (fol ++ [y]) := by
  have sub : ∀ {e : We}, e ∈ ws → e ∈ ws ++ [(y, L + 1, some (p, m))] := fun he => List.mem_append_left _ he
  have cs : ∀ {e : We}, e ∈ ws ++ [(y, L + 1, some (p, m))] → e ∈ ws ∨ e = (y, L + 1, some (p, m)) := fun he => by
    rcases List.mem_append.mp he with z | z
    · exact .inl z
    · exact .inr (List.mem_singleton.mp z)
  refine ⟨?_, sub h.root, fun z k hz => ?_, fun z k p' m' hz => ?_, fun e he => ?_, fun x hx => ?_, fun e he hl => ?_, fun x hx => ?_, fun e he z => ?_, ?_⟩
  · rw [List.map_append, List.nodup_append]
    refine ⟨h.nd, by simp, fun x hx z hz e => ?_⟩
    have : z = y := by simpa using hz
    subst this
    subst e
    exact hy hx
  · rcases cs hz with z1 | z1
    · exact h.non _ _ z1
    · cases z1
  · rcases cs hz with z1 | z1
    · obtain ⟨j, g, h1, h2, h3⟩ := h.par _ _ _ _ z1
      exact ⟨j, g, sub h1, h2, h3⟩
    · cases z1
      exact ⟨L, f, sub hp, rfl, hm⟩
  · rcases cs he with z1 | z1
    · exact h.lv e z1
    · rw [z1]
      exact Nat.le_refl _
  · obtain ⟨g, hg⟩ := h.td x hx
    exact ⟨g, sub hg⟩
  · rcases cs he with z1 | z1
    · rcases h.dn e z1 hl with a | a
      · exact .inl a
      · refine .inr fun q hq => ?_
        obtain ⟨k, g, h1, h2⟩ := a q hq
        exact ⟨k, g, sub h1, h2⟩
    · rw [z1] at hl
      simp at hl
      omega
  · rcases List.mem_append.mp hx with z | z
    · obtain ⟨g, hg⟩ := h.f1 x z
      exact ⟨g, sub hg⟩
    · rw [List.mem_singleton.mp z]
      exact ⟨some (p, m), List.mem_append_right _ (by simp)⟩
  · rcases cs he with z1 | z1
    · exact List.mem_append_left _ (h.f2 e z1 z)
    · rw [z1]
      exact List.mem_append_right _ (by simp)
  · rw [List.length_append, List.length_append]
    have := h.fl
    simp
    omega
theorem BF.done {N : Int → List Nu} {s p : Int} {ws : List We} {L : Nat} {todo fol : List Int} {f : Option (Int × Int)} (h : BF N s ws L (p :: todo) fol) (hp : (p, L, f) ∈ ws) (hd : ∀ q ∈ N p, ∃ k f, (q.1, k, f) ∈ ws ∧ k ≤ L + 1) : BF N s ws L todo fol :=
  ⟨h.nd, h.root, h.non, h.par, h.lv, fun x hx => h.td x (List.mem_cons_of_mem _ hx), fun e he hl => by
    rcases h.dn e he hl with a | a
    · rcases List.mem_cons.mp a with b | b
      · obtain ⟨x, k, g⟩ := e
        have b : x = p := b
        subst b
        have := (we_one h.nd he hp).1
        subst this
        exact .inr hd
      · exact .inl b
    · exact .inr a, h.f1, h.f2, h.fl⟩
/-! ### as it lies in the heap -/
def WeV (H : Hp) (kv : Key × V) (e : We) : Prop := kv.1 = Sum.inl e.1 ∧ ∃ a, kv.2 = .ref a ∧ H a = some (.tup (weL e))
theorem WeV.tk {H H' : Hp} (k : Tk H H') {kv : Key × V} {e : We} (h : WeV H kv e) : WeV H' kv e := by
  obtain ⟨h1, a, h2, h3⟩ := h
  exact ⟨h1, a, h2, k _ _ h3⟩
theorem wes_tk {H H' : Hp} (k : Tk H H') {kvs : List (Key × V)} {ws : List We} (h : Paired (WeV H) kvs ws) : Paired (WeV H') kvs ws := Paired.mono (fun _ _ x => x.tk k) h
theorem wes_none {H : Hp} {x : Int} : ∀ {kvs : List (Key × V)} {ws : List We}, Paired (WeV H) kvs ws → x ∉ ws.map (·.1) → valV kvs (Sum.inl x) = none
  | _, _, .nil, _ => rfl
  | kv :: kvs, e :: ws, .cons h t, hx => by
    rw [List.map_cons, List.mem_cons, not_or] at hx
    obtain ⟨k, v⟩ := kv
    have h1 : k = Sum.inl e.1 := h.1
    rw [valV_neg (fun z => hx.1 (by rw [h1] at z; exact (Sum.inl.inj z).symm))]
    exact wes_none t hx.2
theorem wes_some {H : Hp} {x : Int} {k : Nat} {f : Option (Int × Int)} : ∀ {kvs : List (Key × V)} {ws : List We}, Paired (WeV H) kvs ws → (ws.map (·.1)).Nodup → (x, k, f) ∈ ws → ∃ a, valV kvs (Sum.inl x) = some (.ref a) ∧ H a = some (.tup (weL (x, k, f)))
  | _, _, .nil, _, hx => by cases hx
  | kv :: kvs, e :: ws, .cons h t, nd, hx => by
    rw [List.map_cons, List.nodup_cons] at nd
    obtain ⟨k', v⟩ := kv
    have h1 : k' = Sum.inl e.1 := h.1
    obtain ⟨a, h2, h3⟩ := h.2
    have h2 : v = .ref a := h2
    rcases List.mem_cons.mp hx with z | z
    · subst z
      exact ⟨a, by rw [valV_pos h1, h2], h3⟩
    · have ne : e.1 ≠ x := fun y => nd.1 (by rw [y]; exact List.mem_map.mpr ⟨_, z, rfl⟩)
      rw [valV_neg (fun y => ne (by rw [h1] at y; exact Sum.inl.inj y))]
      exact wes_some t nd.2 z
theorem putK_new {k : Key} {v : V} : ∀ {kvs : List (Key × V)}, valV kvs k = none → putK kvs k v = kvs ++ [(k, v)] := fun {kvs} h => by
  unfold putK
  rw [if_neg]
  intro g
  rw [List.any_eq_true] at g
  obtain ⟨kv, h1, h2⟩ := g
  have h2 := of_decide_eq_true h2
  induction kvs with
  | nil => cases h1
  | cons x kvs ih =>
    obtain ⟨k', v'⟩ := x
    by_cases e : k' = k
    · rw [valV_pos e] at h
      cases h
    · rw [valV_neg e] at h
      rcases List.mem_cons.mp h1 with z | z
      · rw [z] at h2
        exact e h2
      · exact ih h z
def WalkAt (H : Hp) (D : Addr) (ws : List We) : Prop := ∃ kvs, H D = some (.dK kvs) ∧ Paired (WeV H) kvs ws
theorem WalkAt.same {H H' : Hp} {D : Addr} {ws : List We} (h : WalkAt H D ws) (s : Same H H') : WalkAt H' D ws := by
  obtain ⟨kvs, h1, h2⟩ := h
  exact ⟨kvs, s _ _ h1, wes_tk (Same.tk s) h2⟩
/-- a list or a tuple, walked -/
def iSeq (K : PySem.W.Frag) (tl : TE) : TI := fun σ H R => tl σ H fun x H1 => ∃ a, x = .ref a ∧ (((∃ xs, SqL K H1 a xs) ∧ R (Itl K a) H1) ∨ ((∃ xs, SqT K H1 a xs) ∧ R (Itt K a) H1))
theorem pi_seq {X : Cx} {tg l : Expr} {tl : TE} (hl : PE X l tl) : PI X tg l (iSeq X.K tl) := by
  refine ⟨fun pins s σ H R I h => ?_⟩
  refine thn (hl.run pins s σ H _ I h) fun v s1 ⟨x, H1, I1, r1, q1⟩ => ?_
  obtain ⟨a, e, q1⟩ := q1
  subst e
  cases r1
  rcases q1 with ⟨⟨xs, hq⟩, q⟩ | ⟨⟨xs, hq⟩, q⟩
  · obtain ⟨its, rv, p, hz⟩ := I1.list hq
    refine wpAny_pyIter_list p.isList ?_
    refine ⟨s1.heap.objs.size, [s1.heap.objs.size], _, _, H1, rfl, I1.kept (t' := s1.toks) fun b o e => Heap.get?_push_of_some _ e, turn_list a _, ⟨_, Heap.get?_push_size _ rfl, rfl, rfl⟩, fun b hb => ?_, q⟩
    have e : b = s1.heap.objs.size := by simpa using hb
    subst e
    exact I1.fpOk (Nat.le_refl _) (I1.hok.fresh (Nat.le_refl _))
  · obtain ⟨its, rv, p, hz⟩ := I1.tuple hq
    refine wpAny_pyIter_tuple (show s1.heap.IsTuple a its.toArray from p) ?_
    refine ⟨s1.heap.objs.size, [s1.heap.objs.size], _, _, H1, rfl, I1.kept (t' := s1.toks) fun b o e => Heap.get?_push_of_some _ e, turn_tuple a _, ⟨_, Heap.get?_push_size _ rfl, rfl, rfl⟩, fun b hb => ?_, q⟩
    have e : b = s1.heap.objs.size := by simpa using hb
    subst e
    exact I1.fpOk (Nat.le_refl _) (I1.hok.fresh (Nat.le_refl _))
def spWalkFrom : Sp := fun vs H Q _ => ∃ (u : V) (n : Nat) (s : Int) (N : Int → List Nu), vs = [.int s, u] ∧ AroAt H u N ∧ 0 ≤ s ∧ s < n ∧ n ≤ 100 ∧ (∀ x q, q ∈ N x → 0 ≤ q.1 ∧ q.1 < n) ∧ ∀ D ws H', Same H H' → WalkAt H' D ws → WF N s ws → ws.length ≤ n → Q (.ref D) H'
section
variable {P : Program} {w : World} {K : PySem.W.Frag} {mg : Str → Option Value} {base : Heap}
theorem ok_walk_from {f : Addr} {fd : FuncData} (F : Fun K "walk_from" "walk_from" s_walk_from f fd) : FnOk P w K mg base CX0 1 f fd ["start", "around"] spWalkFrom := by
  refine F.ok sc_walk_from (fun vs H Q E h => ?_) (fun cdv A outer sh H vs Q E hr h => ?_)
  · obtain ⟨u, n, s, N, rfl, _⟩ := h
    rfl
  · obtain ⟨u, n, s, N, rfl, ⟨U, As, rfl, hU⟩, s0, s1, n100, hN, q⟩ := h
    have hu := room1 hr
    refine ⟨_, (pss_cons (ps_set (i := 2) sc_walk_from.nd rfl (.inl rfl) (pe_disp (pps_cons (pv 0) (pe_tup (pa_cons pe_int (pa_cons pe_non (pa_cons pe_non pa_nil)))) pps_nil) (by rfl) (by rfl) (fun z => by cases z) (by decide)))
      (pss_cons (ps_set (i := 3) sc_walk_from.nd rfl (.inl rfl) (pe_lst (pa_cons (pv 0) pa_nil)))
      (pss_cons (ps_set (i := 4) sc_walk_from.nd rfl (.inl rfl) pe_int)
      (pss_cons (ps_while PassesOwn.never (pt_truth (pv 3) (by intro _; rfl))
        (pss_cons (ps_aug (i := 4) sc_walk_from.nd rfl (.inl rfl) pe_int ip_add)
        (pss_cons (ps_set (i := 5) sc_walk_from.nd rfl (.inl rfl) (pe_lst pa_nil))
        (pss_cons (ps_for PassesOwn.never rfl (pi_list (pv 3)) (pg_name (i := 6) sc_walk_from.nd rfl (.inl rfl))
          (pss_one (ps_for PassesOwn.never rfl (pi_seq (pe_dget2 hu (pv 1) (pv 6) (pe_tup pa_nil) ⟨rfl, rfl, rfl, rfl⟩)) (pg_tup rfl (pgs_cons (pg_name (i := 7) sc_walk_from.nd rfl (.inl rfl)) (pgs_cons (pg_name (i := 8) sc_walk_from.nd rfl (.inl rfl)) pgs_nil)))
            (pss_one (ps_if (pt_cmp (pc_dnotin hu (pv 7) (pv 2)))
              (pss_cons (ps_dput hu (pv 2) (pv 7) (pe_tup (pa_cons (pv 4) (pa_cons (pv 6) (pa_cons (pv 8) pa_nil)))) rfl)
              (pss_one (ps_expr (pe_bm PySem.F.plainAttrs_list PySem.F.slot_list_append PySem.F.type_list_append mt_append (pv 5) (pa_cons (pv 7) pa_nil)))))
              pss_nil)))))
        (pss_one (ps_set (i := 3) sc_walk_from.nd rfl (.inl rfl) (pv 5)))))))
      (pss_one (ps_ret (pv 2))))))), ?_⟩
    -- walk
    refine fun D nD => ⟨.int s, rfl, by show 3 ≤ sizeLine; decide, fun T nT => ?_⟩
    have hTD : T ≠ D := (ne_of_none upd_same nT).symm
    have nTH : H T = none := by rw [upd_ne hTD] at nT; exact nT
    refine ⟨by rw [upd_ne (Ne.symm hTD)]; exact upd_same, [(Sum.inl s, .ref T)], rfl, (by show 1 ≤ 15; decide), ?_⟩
    have hw0 : WalkAt (upd (upd (upd H D (.dK [])) T (.tup [.int 0, .non, .non])) D (.dK (mergeK [] [(Sum.inl s, .ref T)]))) D [(s, 0, none)] := ⟨_, upd_same, .cons ⟨rfl, T, rfl, by rw [upd_ne hTD]; exact upd_same⟩ .nil⟩
    have s2 : Same H (upd (upd (upd H D (.dK [])) T (.tup [.int 0, .non, .non])) D (.dK (mergeK [] [(Sum.inl s, .ref T)]))) := Same.mut (Same.mut (same_new nD) nTH) nD
    generalize upd (upd (upd H D (.dK [])) T (.tup [.int 0, .non, .non])) D (.dK (mergeK [] [(Sum.inl s, .ref T)])) = H2 at hw0 s2
    -- reached
    refine ⟨.int s, rfl, by show 1 ≤ sizeLine; decide, fun R0 nR0 => ?_⟩
    refine ⟨fun k σ' H' => ∃ (y5 y6 y7 y8 : Option V) (R : Addr) (ws : List We) (L : Nat) (todo : List Int), σ' = [some (.int s), some (.ref U), some (.ref D), some (.ref R), some (.int (L : Nat)), y5, y6, y7, y8] ∧ WalkAt H' D ws ∧ H' R = some (.lst (todo.map V.int)) ∧ Same H H' ∧ BF N s ws L todo [] ∧ Bst N s L = (ws, todo) ∧ k = 2 * (n - ws.length) + (if todo.isEmpty = true then 0 else 1), ⟨_, none, none, none, none, R0, [(s, 0, none)], 0, [s], rfl, hw0.same (same_new nR0), upd_same, s2.trans (same_new nR0), BF.start N s, rfl, rfl⟩, ?_⟩
    clear hw0 s2 nR0 nT hTD nTH
    rintro k σ' H1 ⟨y5, y6, y7, y8, R, ws, L, todo, rfl, hw, hR, s3, bf, hx, hk⟩
    refine ⟨.ref R, rfl, _, .inl ⟨_, SqL.of hR, rfl⟩, ?_⟩
    refine ite2 (fun hb => ?_) (fun hb => ?_)
    · have hne : todo.isEmpty = false := by
        cases todo with
        | nil => cases hb
        | cons a b => rfl
      rw [hne] at hk
      refine ⟨fun σ' H' => ∃ k', k' < k ∧ ∃ (y5 y6 y7 y8 : Option V) (R : Addr) (ws : List We) (L : Nat) (todo : List Int), σ' = [some (.int s), some (.ref U), some (.ref D), some (.ref R), some (.int (L : Nat)), y5, y6, y7, y8] ∧ WalkAt H' D ws ∧ H' R = some (.lst (todo.map V.int)) ∧ Same H H' ∧ BF N s ws L todo [] ∧ Bst N s L = (ws, todo) ∧ k' = 2 * (n - ws.length) + (if todo.isEmpty = true then 0 else 1), fun _ _ h => h, ?_⟩
      refine ⟨.int (L : Nat), rfl, L, 1, rfl, rfl, ?_⟩
      refine ⟨Nat.zero_le _, fun Fo nF => ?_⟩
      have hFD : Fo ≠ D := by
        obtain ⟨kvs, h1, _⟩ := hw
        exact (ne_of_none h1 nF).symm
      have hFR : Fo ≠ R := (ne_of_none hR nF).symm
      have nFH : H Fo = none := s3.free nF
      have few0 := bf.few ⟨s0, s1⟩ hN
      have hRs : (upd H1 Fo (.lst [])) R = some (.lst (todo.map V.int)) := same_new nF _ _ hR
      refine ⟨.ref R, rfl, R, rfl, ⟨_, SqL.of hRs⟩, ?_⟩
      refine for_list (xs := todo.map V.int) (fun i σ' H' => ∃ (y6 y7 y8 : Option V) (ws' : List We) (fol : List Int), σ' = [some (.int s), some (.ref U), some (.ref D), some (.ref R), some (.int ((L + 1 : Nat) : Int)), some (.ref Fo), y6, y7, y8] ∧ WalkAt H' D ws' ∧ H' R = some (.lst (todo.map V.int)) ∧ H' Fo = some (.lst (fol.map V.int)) ∧ Same H H' ∧ BF N s ws' L (todo.drop i) fol ∧ (todo.take i).foldl (fun st p => (N p).foldl (stp p L) st) (ws, []) = (ws', fol) ∧ ws'.length = ws.length + fol.length) ⟨y6, y7, y8, ws, [], rfl, hw.same (same_new nF), hRs, upd_same, s3.trans (same_new nF), bf, rfl, rfl⟩ (fun i σ' H' _ h => by
        obtain ⟨_, _, _, _, _, _, _, h, _⟩ := h
        exact SqL.of h) ?_ ?_
      · clear hw hR s3 hRs nF
        rintro i x σ' H2 ex ⟨y6, y7, y8, ws1, fol1, rfl, hw, hR, hF, s3, bf', hx1, hl⟩
        rw [List.getElem?_map] at ex
        obtain ⟨p, hp, rfl⟩ := Option.map_eq_some_iff.mp ex
        have hi := (List.getElem?_eq_some_iff.mp hp).1
        have ed : todo.drop i = p :: todo.drop (i + 1) := by
          rw [List.drop_eq_getElem_cons hi]
          congr 1
          exact (List.getElem?_eq_some_iff.mp hp).2
        rw [ed] at bf'
        obtain ⟨f0, hf0⟩ := bf'.td p (by simp)
        have hU3 := hU.same s3
        refine ⟨.ref U, rfl, U, rfl, .inl ⟨_, .inl hU3.at'⟩, .int p, rfl, Nat.zero_le _, fun t nt => ⟨_, DGet.k (k := Sum.inl p) (same_new nt _ _ hU3.at'), ?_⟩⟩
        have sT := same_new (o := .tup []) nt
        -- what holds along the neighbours
        let Jv : Nat → L2.St → Hp → Prop := fun j σ' H' => ∃ (y7 y8 : Option V) (ws' : List We) (fol : List Int), σ' = [some (.int s), some (.ref U), some (.ref D), some (.ref R), some (.int ((L + 1 : Nat) : Int)), some (.ref Fo), some (.int p), y7, y8] ∧ WalkAt H' D ws' ∧ H' R = some (.lst (todo.map V.int)) ∧ H' Fo = some (.lst (fol.map V.int)) ∧ Same H H' ∧ Tk H2 H' ∧ BF N s ws' L (p :: todo.drop (i + 1)) fol ∧ (p, L, f0) ∈ ws' ∧ (∀ q ∈ (N p).take j, q.1 ∈ ws'.map (·.1)) ∧ ((N p).take j).foldl (stp p L) (ws1, fol1) = (ws', fol) ∧ ws'.length = ws.length + fol.length
        have J0 : Jv 0 [some (.int s), some (.ref U), some (.ref D), some (.ref R), some (.int ((L + 1 : Nat) : Int)), some (.ref Fo), some (.int p), y7, y8] (upd H2 t (.tup [])) := ⟨y7, y8, ws1, fol1, rfl, hw.same sT, sT _ _ hR, sT _ _ hF, s3.trans sT, Same.tk sT, bf', hf0, fun q hq => by simp at hq, rfl, hl⟩
        have Jend : ∀ σ' H', Jv (N p).length σ' H' → ∃ (y6 y7 y8 : Option V) (ws' : List We) (fol : List Int), σ' = [some (.int s), some (.ref U), some (.ref D), some (.ref R), some (.int ((L + 1 : Nat) : Int)), some (.ref Fo), y6, y7, y8] ∧ WalkAt H' D ws' ∧ H' R = some (.lst (todo.map V.int)) ∧ H' Fo = some (.lst (fol.map V.int)) ∧ Same H H' ∧ BF N s ws' L (todo.drop (i + 1)) fol ∧ (todo.take (i + 1)).foldl (fun st p => (N p).foldl (stp p L) st) (ws, []) = (ws', fol) ∧ ws'.length = ws.length + fol.length := by
          rintro σ' H' ⟨y7, y8, ws', fol, rfl, h1, h2, h3, h4, _, h5, h6, h7, hx2, h8⟩
          rw [List.take_length] at h7 hx2
          refine ⟨_, _, _, ws', fol, rfl, h1, h2, h3, h4, h5.done h6 fun q hq => ?_, by rw [List.take_add_one, hp, List.foldl_append, hx1]; exact hx2, h8⟩
          obtain ⟨kk, ff, he⟩ := we_key (h7 q hq)
          exact ⟨kk, ff, he, h5.lv _ he⟩
        rcases aKv_cases As p hU.nd with ⟨hno, e⟩ | ⟨a, ha, e⟩
        · rw [e]
          have eN : N p = [] := hU.no p hno
          refine ⟨t, rfl, .inr ⟨⟨_, SqT.of upd_same⟩, ?_⟩⟩
          refine for_tup (xs := []) (fun j σ' H' => Jv j σ' H' ∧ H' t = some (.tup [])) ⟨J0, upd_same⟩ (fun j σ' H' _ h => SqT.of h.2) (fun j x σ' H' ex => by simp at ex) (fun σ' H' h => Jend σ' H' (by rw [eN]; exact h.1))
        · rw [e]
          obtain ⟨us, hus, hpu⟩ := hU.each _ ha
          refine ⟨a, rfl, .inl ⟨⟨_, SqL.of (sT _ _ (s3 _ _ hus))⟩, ?_⟩⟩
          have lu : us.length = (N p).length := Paired.length hpu
          refine for_list (xs := us) Jv J0 (fun j σ' H' _ h => by
            obtain ⟨_, _, _, _, _, _, _, _, h, _⟩ := h
            exact SqL.of (h _ _ hus)) ?_ (by rw [lu]; exact Jend)
          clear J0 Jend hw hR hF s3 bf' hl hf0 sT nt hU3 hx1
          rintro j x σ' H3 ex ⟨y7, y8, ws', fol, rfl, hw, hR, hF, s3, tk, bf', hf, hdn, hx2, hl⟩
          obtain ⟨⟨y, m⟩, eq, c, rfl, hc⟩ := Paired.at hpu ex
          have hm : (y, m) ∈ N p := List.mem_of_getElem? eq
          have few := bf'.few ⟨s0, s1⟩ hN
          have etk : (N p).take (j + 1) = (N p).take j ++ [(y, m)] := by
            rw [List.take_add_one, eq]
            rfl
          obtain ⟨kvs, hD, hkv⟩ := id hw
          have lkv : kvs.length = ws'.length := Paired.length hkv
          refine ⟨c, _, rfl, SqT.of (s3 _ _ hc), rfl, _, _, rfl, _, _, rfl, rfl, ?_⟩
          refine ⟨.int y, rfl, .ref D, rfl, D, _, rfl, DGet.k (k := Sum.inl y) hD, _, rfl, ?_⟩
          by_cases hy : y ∈ ws'.map (·.1)
          · obtain ⟨ky, fy, hey⟩ := we_key hy
            obtain ⟨ay, ev, _⟩ := wes_some hkv bf'.nd hey
            rw [ev]
            refine ⟨_, _, ws', fol, rfl, hw, hR, hF, s3, tk, bf', hf, fun q hq => ?_, by rw [etk, List.foldl_append, hx2]; show stp p L (ws', fol) (y, m) = _; unfold stp; rw [if_pos hy], hl⟩
            rw [etk] at hq
            rcases List.mem_append.mp hq with z | z
            · exact hdn q z
            · rw [List.mem_singleton.mp z]
              exact hy
          · have ev := wes_none hkv hy
            rw [ev]
            refine ⟨.int ((L + 1 : Nat) : Int), rfl, .int p, rfl, .int m, rfl, by show 3 ≤ sizeLine; decide, fun Z nZ => ?_⟩
            have sZ := same_new (o := .tup [.int ((L + 1 : Nat) : Int), .int p, .int m]) nZ
            have hZD : Z ≠ D := (ne_of_none hD nZ).symm
            refine ⟨.ref D, rfl, .int y, rfl, D, _, rfl, DPut.k (k := Sum.inl y) (sZ _ _ hD) (small1000 (by omega)), ?_⟩
            rw [putK_new ev]
            have tkD : Tk H3 (upd (upd H3 Z (.tup [.int ((L + 1 : Nat) : Int), .int p, .int m])) D (.dK (kvs ++ [(Sum.inl y, .ref Z)]))) := fun b xs e => by
              rw [upd_ne (ne_of e hD (by intro z; cases z))]
              exact sZ _ _ e
            have hF4 : (upd (upd H3 Z (.tup [.int ((L + 1 : Nat) : Int), .int p, .int m])) D (.dK (kvs ++ [(Sum.inl y, .ref Z)]))) Fo = some (.lst (fol.map V.int)) := by rw [upd_ne hFD]; exact sZ _ _ hF
            have lf := bf'.fl
            have bfp := bf'.push hf hm hy
            have few2 := bfp.few ⟨s0, s1⟩ hN
            refine ⟨.ref Fo, rfl, .inl ⟨rfl, _, SqL.of hF4⟩, .int y, rfl, Fo, _, _, rfl, rfl, hF4, by rw [List.length_map]; exact small1000 (by omega), ?_⟩
            have tkF := tk_lst (ys := fol.map V.int ++ [.int y]) hF4
            refine ⟨_, _, ws' ++ [(y, L + 1, some (p, m))], fol ++ [y], rfl, ⟨kvs ++ [(Sum.inl y, .ref Z)], ?_, Paired.snoc (wes_tk (tkD.trans tkF) hkv) ⟨rfl, Z, rfl, tkF _ _ (by rw [upd_ne hZD]; exact upd_same)⟩⟩, ?_, by rw [upd_same, List.map_append]; rfl, Same.mut (Same.mut (s3.trans sZ) nD) nFH, tk.trans (tkD.trans tkF), bfp, List.mem_append_left _ hf, fun q hq => ?_, by rw [etk, List.foldl_append, hx2]; show stp p L (ws', fol) (y, m) = _; unfold stp; rw [if_neg hy], ?_⟩
            · rw [upd_ne (Ne.symm hFD)]
              exact upd_same
            · have hRD : R ≠ D := ne_of hR hD (by intro z; cases z)
              rw [upd_ne (Ne.symm hFR), upd_ne hRD]
              exact sZ _ _ hR
            · rw [List.map_append]
              rw [etk] at hq
              rcases List.mem_append.mp hq with z | z
              · exact List.mem_append_left _ (hdn q z)
              · rw [List.mem_singleton.mp z]
                exact List.mem_append_right _ (by simp)
            · rw [List.length_append, List.length_append, hl]
              rfl
      · clear hw hR s3 hRs nF
        rintro σ' H2 ⟨y6, y7, y8, ws', fol, rfl, hw, hR, hF, s3, bf', hx1, hl⟩
        rw [List.length_map, List.drop_length] at bf'
        rw [List.length_map, List.take_length] at hx1
        have few := bf'.few ⟨s0, s1⟩ hN
        refine ⟨.ref Fo, rfl, _, ?_, _, _, _, _, Fo, ws', L + 1, fol, rfl, hw, hF, s3, bf'.next, by show lvl N L (Bst N s L) = _; rw [hx]; exact hx1, rfl⟩
        cases fol with
        | nil =>
          rw [hk, hl]
          simp
        | cons a b =>
          rw [List.length_cons] at hl
          rw [hk]
          simp
          omega
    · have he : todo = [] := by
        cases todo with
        | nil => rfl
        | cons a b => exact absurd rfl hb
      subst he
      exact ⟨.ref D, rfl, q D ws H1 s3 hw (bf.stop ⟨L, hx⟩) (bf.few ⟨s0, s1⟩ hN)⟩
end
/-! ### the way back -/
inductive Way (N : Int → List Nu) (e : Int) : Int → List Int → List Int → Prop
  | one : Way N e e [e] []
  | cons {c p m : Int} {qs ns : List Int} : Way N e c qs ns → (c, m) ∈ N p → p ∉ qs → Way N e p (p :: qs) (m :: ns)
theorem Way.len {N : Int → List Nu} {e c : Int} {qs ns : List Int} (h : Way N e c qs ns) : qs.length = ns.length + 1 := by
  induction h with
  | one => rfl
  | cons _ _ _ ih => rw [List.length_cons, List.length_cons, ih]
theorem Way.nodup {N : Int → List Nu} {e c : Int} {qs ns : List Int} (h : Way N e c qs ns) : qs.Nodup := by
  induction h with
  | one => simp
  | cons _ _ hp ih => exact List.nodup_cons.mpr ⟨hp, ih⟩
/-- the way back, by the walk alone -/
inductive Bk (ws : List We) : Int → List Int → List Int → Prop
  | stop {c : Int} {k : Nat} : (c, k, none) ∈ ws → Bk ws c [c] []
  | step {c p m : Int} {k : Nat} {qs ns : List Int} : (c, k, some (p, m)) ∈ ws → Bk ws p qs ns → Bk ws c (c :: qs) (m :: ns)
theorem Bk.one {ws : List We} (nd : (ws.map (·.1)).Nodup) {c : Int} {qs ns : List Int} (a : Bk ws c qs ns) : ∀ {qs' ns' : List Int}, Bk ws c qs' ns' → qs = qs' ∧ ns = ns' := by
  induction a with
  | stop h =>
    intro qs' ns' b
    cases b with
    | stop _ => exact ⟨rfl, rfl⟩
    | step h' _ => cases (we_one nd h h').2
  | step h t ih =>
    intro qs' ns' b
    cases b with
    | stop h' => cases (we_one nd h h').2
    | step h' t' =>
      cases (we_one nd h h').2
      obtain ⟨e1, e2⟩ := ih t'
      rw [e1, e2]
      exact ⟨rfl, rfl⟩
/-- the way that is told, and no other -/
def Exa (N : Int → List Nu) (s e : Int) (qs ns : List Int) : Prop := ∃ ws, WF N s ws ∧ Bk ws e qs.reverse ns.reverse
theorem Exa.one {N : Int → List Nu} {s e : Int} {qs ns qs' ns' : List Int} (a : Exa N s e qs ns) (b : Exa N s e qs' ns') : qs = qs' ∧ ns = ns' := by
  obtain ⟨ws, h1, h2⟩ := a
  obtain ⟨ws', h1', h2'⟩ := b
  obtain rfl := h1.ex.one h1'.ex
  obtain ⟨e1, e2⟩ := h2.one h1.nd h2'
  exact ⟨List.reverse_inj.mp e1, List.reverse_inj.mp e2⟩
def spWayTo : Sp := fun vs H Q _ => ∃ (e s : Int) (D : Addr) (ws : List We) (N : Int → List Nu) (k : Nat) (f : Option (Int × Int)), vs = [.int e, .ref D] ∧ WalkAt H D ws ∧ WF N s ws ∧ (e, k, f) ∈ ws ∧ k ≤ 200 ∧ ∀ r a b qs ns H', Same H H' → H' r = some (.tup [.ref a, .ref b]) → H' a = some (.tup (qs.map V.int)) → H' b = some (.tup (ns.map V.int)) → Way N e s qs ns → Exa N s e qs ns → ns.length = k → Q (.ref r) H'
section
variable {P : Program} {w : World} {K : PySem.W.Frag} {mg : Str → Option Value} {base : Heap}
theorem ok_way_to {f : Addr} {fd : FuncData} (F : Fun K "way_to" "way_to" s_way_to f fd) (M : Free mg) : FnOk P w K mg base CX0 1 f fd ["end", "walk"] spWayTo := by
  refine F.ok sc_way_to (fun vs H Q E h => ?_) (fun cdv A outer sh H vs Q E hr h => ?_)
  · obtain ⟨e, s, D, ws, N, k, f, rfl, _⟩ := h
    rfl
  · obtain ⟨e, s, D, ws, N, k, f, rfl, hw, wf, he, k2, q⟩ := h
    have hu := room1 hr
    refine ⟨_, (pss_cons (ps_set (i := 2) sc_way_to.nd rfl (.inl rfl) (pe_lst (pa_cons (pv 0) pa_nil)))
      (pss_cons (ps_set (i := 3) sc_way_to.nd rfl (.inl rfl) (pe_lst pa_nil))
      (pss_cons (ps_asg (pe_dget hu (pv 1) (pv 0) (fun _ _ => rfl)) (pg_tup rfl (pgs_cons (pg_name (i := 4) sc_way_to.nd rfl (.inl rfl)) (pgs_cons (pg_name (i := 5) sc_way_to.nd rfl (.inl rfl)) (pgs_cons (pg_name (i := 6) sc_way_to.nd rfl (.inl rfl)) pgs_nil)))))
      (pss_cons (ps_while PassesOwn.never (pt_cmpR op_notN (pv 5) pe_non (nomark _))
        (pss_cons (ps_expr (pe_bm PySem.F.plainAttrs_list PySem.F.slot_list_append PySem.F.type_list_append mt_append (pv 2) (pa_cons (pv 5) pa_nil)))
        (pss_cons (ps_expr (pe_bm PySem.F.plainAttrs_list PySem.F.slot_list_append PySem.F.type_list_append mt_append (pv 3) (pa_cons (pv 6) pa_nil)))
        (pss_one (ps_asg (pe_dget hu (pv 1) (pv 5) (fun _ _ => rfl)) (pg_tup rfl (pgs_cons (pg_name (i := 4) sc_way_to.nd rfl (.inl rfl)) (pgs_cons (pg_name (i := 5) sc_way_to.nd rfl (.inl rfl)) (pgs_cons (pg_name (i := 6) sc_way_to.nd rfl (.inl rfl)) pgs_nil)))))))))
      (pss_one (ps_ret (pe_tup (pa_cons (pe_callTy call_tuple_of (by rfl) M.tuple (by decide +kernel) (pa_cons (pe_revL (pv 2)) pa_nil)) (pa_cons (pe_callTy call_tuple_of (by rfl) M.tuple (by decide +kernel) (pa_cons (pe_revL (pv 3)) pa_nil)) pa_nil))))))))), ?_⟩
    refine ⟨.int e, rfl, by show 1 ≤ sizeLine; decide, fun A1 n1 => ⟨Nat.zero_le _, fun B n2 => ?_⟩⟩
    have s2 := (same_new (o := .lst [.int e]) n1).trans (same_new (o := .lst []) n2)
    have hAB : A1 ≠ B := ne_of_none upd_same n2
    have hA2 : (upd (upd H A1 (.lst [.int e])) B (.lst [])) A1 = some (.lst [.int e]) := by rw [upd_ne hAB]; exact upd_same
    have hB2 : (upd (upd H A1 (.lst [.int e])) B (.lst [])) B = some (.lst []) := upd_same
    have nBH : H B = none := (same_new n1).free n2
    generalize upd (upd H A1 (.lst [.int e])) B (.lst []) = H2 at s2 hA2 hB2
    -- an entry, read
    have get : ∀ (H' : Hp) (x : Int) (j : Nat) (g : Option (Int × Int)), Same H H' → (x, j, g) ∈ ws → ∃ a, DGet H' D (.int x) (some (.ref a)) ∧ H' a = some (.tup (weL (x, j, g))) := fun H' x j g s3 hx => by
      obtain ⟨kvs, h1, h2⟩ := hw.same s3
      obtain ⟨a, e1, e2⟩ := wes_some h2 wf.nd hx
      exact ⟨a, by rw [← e1]; exact DGet.k (k := Sum.inl x) h1, e2⟩
    let aV : Option (Int × Int) → V := fun g => match g with | none => .non | some z => .int z.1
    let nV : Option (Int × Int) → V := fun g => match g with | none => .non | some z => .int z.2
    have wl : ∀ (x : Int) (j : Nat) (g : Option (Int × Int)), weL (x, j, g) = [.int (j : Nat), aV g, nV g] := fun x j g => by cases g <;> rfl
    obtain ⟨a0, g0, h0⟩ := get H2 e k f s2 he
    rw [wl] at h0
    refine ⟨.ref D, rfl, .int e, rfl, D, _, rfl, g0, a0, _, rfl, SqT.of h0, rfl, _, _, rfl, _, _, rfl, _, _, rfl, rfl, ?_⟩
    refine ⟨fun j σ' H' => ∃ (c : Int) (g : Option (Int × Int)) (qs ns : List Int), σ' = [some (.int e), some (.ref D), some (.ref A1), some (.ref B), some (.int (j : Nat)), some (aV g), some (nV g)] ∧ (c, j, g) ∈ ws ∧ H' A1 = some (.lst (qs.reverse.map V.int)) ∧ H' B = some (.lst (ns.reverse.map V.int)) ∧ Same H H' ∧ Way N e c qs ns ∧ ns.length + j = k ∧ (∀ qs' ns', Bk ws c (c :: qs') ns' → Bk ws e (qs.reverse ++ qs') (ns.reverse ++ ns')) ∧ ∀ x ∈ qs, ∃ i g, (x, i, g) ∈ ws ∧ j ≤ i, ⟨k, e, f, [e], [], rfl, he, hA2, hB2, s2, .one, by simp, fun _ _ h => h, fun x hx => ⟨k, f, by rw [List.mem_singleton.mp hx]; exact he, Nat.le_refl _⟩⟩, ?_⟩
    clear hA2 hB2 s2 n2 h0 g0
    rintro j σ' H1 ⟨c, g, qs, ns, rfl, hc, hA, hB, s3, way, hl, bk, lev⟩
    have lq := way.len
    refine ⟨aV g, rfl, rfl, _, rfl, ?_⟩
    cases g with
    | some z =>
      obtain ⟨p, m⟩ := z
      obtain ⟨i, g', hp, hj, hm⟩ := wf.par _ _ _ _ hc
      refine ⟨fun σ' H' => ∃ j', j' < j ∧ ∃ (c : Int) (g : Option (Int × Int)) (qs ns : List Int), σ' = [some (.int e), some (.ref D), some (.ref A1), some (.ref B), some (.int (j' : Nat)), some (aV g), some (nV g)] ∧ (c, j', g) ∈ ws ∧ H' A1 = some (.lst (qs.reverse.map V.int)) ∧ H' B = some (.lst (ns.reverse.map V.int)) ∧ Same H H' ∧ Way N e c qs ns ∧ ns.length + j' = k ∧ (∀ qs' ns', Bk ws c (c :: qs') ns' → Bk ws e (qs.reverse ++ qs') (ns.reverse ++ ns')) ∧ ∀ x ∈ qs, ∃ i g, (x, i, g) ∈ ws ∧ j' ≤ i, fun _ _ h => h, ?_⟩
      refine ⟨.ref A1, rfl, .inl ⟨rfl, _, SqL.of hA⟩, .int p, rfl, A1, _, _, rfl, rfl, hA, by rw [List.length_map, List.length_reverse]; exact small1000 (by omega), ?_⟩
      have hB2 : (upd H1 A1 (.lst (qs.reverse.map V.int ++ [.int p]))) B = some (.lst (ns.reverse.map V.int)) := by rw [upd_ne (Ne.symm hAB)]; exact hB
      refine ⟨.ref B, rfl, .inl ⟨rfl, _, SqL.of hB2⟩, .int m, rfl, B, _, _, rfl, rfl, hB2, by rw [List.length_map, List.length_reverse]; exact small1000 (by omega), ?_⟩
      have s4 : Same H (upd (upd H1 A1 (.lst (qs.reverse.map V.int ++ [.int p]))) B (.lst (ns.reverse.map V.int ++ [.int m]))) := Same.mut (Same.mut s3 n1) nBH
      obtain ⟨a1, g1, h1⟩ := get _ p i g' s4 hp
      rw [wl] at h1
      refine ⟨.ref D, rfl, .int p, rfl, D, _, rfl, g1, a1, _, rfl, SqT.of h1, rfl, _, _, rfl, _, _, rfl, _, _, rfl, rfl, ?_⟩
      refine ⟨i, by omega, p, g', p :: qs, m :: ns, rfl, hp, ?_, ?_, s4, .cons way hm (fun hin => ?_), by rw [List.length_cons]; omega, fun qs' ns' hb => ?_, fun x hx => ?_⟩
      · rw [upd_ne hAB, upd_same, List.reverse_cons, List.map_append]
        rfl
      · rw [upd_same, List.reverse_cons, List.map_append]
        rfl
      · obtain ⟨i', g'', hx, hle⟩ := lev p hin
        have := (we_one wf.nd hp hx).1
        omega
      · have := bk _ _ (.step hc hb)
        rw [List.reverse_cons, List.reverse_cons, List.append_assoc, List.append_assoc]
        exact this
      · rcases List.mem_cons.mp hx with z | z
        · exact ⟨i, g', by rw [z]; exact hp, Nat.le_refl _⟩
        · obtain ⟨i', g'', h2, h3⟩ := lev x z
          exact ⟨i', g'', h2, by omega⟩
    | none =>
      obtain ⟨rfl, rfl⟩ := wf.non _ _ hc
      refine ⟨.ref A1, rfl, A1, _, rfl, SqL.of hA, fun p1 m1 => ⟨p1, _, rfl, .inl ⟨SqL.of upd_same, fun r1 m2 => ?_⟩⟩⟩
      have e1 := (same_new (o := .lst (qs.reverse.map V.int).reverse) m1)
      have e2 := (same_new (o := .tup (qs.reverse.map V.int).reverse) m2)
      have hB2 := e2 _ _ (e1 _ _ hB)
      refine ⟨.ref B, rfl, B, _, rfl, SqL.of hB2, fun p3 m3 => ⟨p3, _, rfl, .inl ⟨SqL.of upd_same, fun r2 m4 => ⟨by show 2 ≤ sizeLine; decide, fun r m5 => ?_⟩⟩⟩⟩
      have e3 := (same_new (o := .lst (ns.reverse.map V.int).reverse) m3)
      have e4 := (same_new (o := .tup (ns.reverse.map V.int).reverse) m4)
      have e5 := (same_new (o := .tup [.ref r1, .ref r2]) m5)
      have rr : ∀ xs : List Int, (xs.reverse.map V.int).reverse = xs.map V.int := fun xs => by rw [List.map_reverse, List.reverse_reverse]
      refine q r r1 r2 qs ns _ ((((s3.trans e1).trans e2).trans e3).trans e4 |>.trans e5) upd_same ?_ ?_ way ⟨ws, wf, by have := bk [] [] (.stop hc); rw [List.append_nil, List.append_nil] at this; exact this⟩ hl
      · rw [e5 _ _ (e4 _ _ (e3 _ _ upd_same)), rr]
      · rw [e5 _ _ upd_same, rr]
end
/-! ### a stand: what is kept, by flags (mathematics) -/
def kt : List Tie → List Bool → List Tie
  | t :: ts, b :: fl => if b = true then t :: kt ts fl else kt ts fl
  | _, _ => []
theorem kt_snoc {t : Tie} {b : Bool} : ∀ {ts : List Tie} {fl : List Bool}, ts.length = fl.length → kt (ts ++ [t]) (fl ++ [b]) = kt ts fl ++ (if b = true then [t] else [])
  | [], [], _ => by cases b <;> rfl
  | x :: ts, c :: fl, h => by
    have ih := kt_snoc (t := t) (b := b) (ts := ts) (fl := fl) (by simpa using h)
    show (if c = true then x :: kt (ts ++ [t]) (fl ++ [b]) else kt (ts ++ [t]) (fl ++ [b])) = (if c = true then x :: kt ts fl else kt ts fl) ++ _
    cases c
    · rw [if_neg (by simp), if_neg (by simp), ih]
    · rw [if_pos rfl, if_pos rfl, ih]
      rfl
theorem mem_kt {t : Tie} : ∀ {ts : List Tie} {fl : List Bool}, t ∈ kt ts fl ↔ ∃ i : Nat, ts[i]? = some t ∧ fl[i]? = some true
  | [], fl => by simp [kt]
  | _ :: _, [] => by simp [kt]
  | x :: ts, c :: fl => by
    have ih := mem_kt (t := t) (ts := ts) (fl := fl)
    show t ∈ (if c = true then x :: kt ts fl else kt ts fl) ↔ _
    constructor
    · intro h
      cases c
      · rw [if_neg (by simp)] at h
        obtain ⟨i, h1, h2⟩ := ih.mp h
        exact ⟨i + 1, by simpa using h1, by simpa using h2⟩
      · rw [if_pos rfl] at h
        rcases List.mem_cons.mp h with e | e
        · exact ⟨0, by simp [e], by simp⟩
        · obtain ⟨i, h1, h2⟩ := ih.mp e
          exact ⟨i + 1, by simpa using h1, by simpa using h2⟩
    · rintro ⟨i, h1, h2⟩
      cases i with
      | zero =>
        simp at h1 h2
        subst h1
        subst h2
        rw [if_pos rfl]
        simp
      | succ i =>
        have := ih.mpr ⟨i, by simpa using h1, by simpa using h2⟩
        cases c
        · rw [if_neg (by simp)]
          exact this
        · rw [if_pos rfl]
          exact List.mem_cons_of_mem _ this
theorem kt_sub {t : Tie} {ts : List Tie} {fl : List Bool} (h : t ∈ kt ts fl) : t ∈ ts := by
  obtain ⟨i, h1, _⟩ := mem_kt.mp h
  exact List.mem_of_getElem? h1
def knT (fl : List Bool) (v : Bool) : List Int := (rng fl.length).filter fun i => fl.getD i.toNat false == v
theorem knT_snoc (fl : List Bool) (b v : Bool) : knT (fl ++ [b]) v = knT fl v ++ (if b = v then [(fl.length : Int)] else []) := by
  unfold knT
  rw [List.length_append]
  show (rng (fl.length + 1)).filter _ = _
  rw [rng_succ, List.filter_append]
  congr 1
  · refine List.filter_congr fun i hi => ?_
    have := mem_rng.mp hi
    rw [List.getD_eq_getElem?_getD, List.getD_eq_getElem?_getD, List.getElem?_append_left (by omega)]
  · have e : (fl ++ [b]).getD (fl.length : Int).toNat false = b := by
      rw [List.getD_eq_getElem?_getD, Int.toNat_natCast, List.getElem?_append_right (Nat.le_refl _)]
      simp
    by_cases h : b = v
    · rw [if_pos h, List.filter_cons_of_pos (by rw [e, h]; simp)]
      rfl
    · rw [if_neg h, List.filter_cons_of_neg (by rw [e]; simpa using h)]
      rfl
theorem mem_knT {fl : List Bool} {v : Bool} {i : Int} : i ∈ knT fl v ↔ (0 ≤ i ∧ i < fl.length) ∧ fl[i.toNat]? = some v := by
  unfold knT
  rw [List.mem_filter, mem_rng]
  constructor
  · rintro ⟨h, e⟩
    refine ⟨h, ?_⟩
    have hl : i.toNat < fl.length := by omega
    rw [List.getD_eq_getElem?_getD, List.getElem?_eq_getElem hl] at e
    rw [List.getElem?_eq_getElem hl]
    have e : (fl[i.toNat] == v) = true := e
    rw [beq_iff_eq] at e
    rw [e]
  · rintro ⟨h, e⟩
    refine ⟨h, ?_⟩
    rw [List.getD_eq_getElem?_getD, e]
    simp
theorem knT_len (fl : List Bool) (v : Bool) : (knT fl v).length ≤ fl.length := by
  have := List.length_filter_le (fun i : Int => fl.getD i.toNat false == v) (rng fl.length)
  rw [rng_length] at this
  exact this
theorem adj_kt {ts : List Tie} {fl : List Bool} (hl : ts.length = fl.length) {x y : Int} {k : Bool} : Adj (kt ts fl) x y k ↔ ∃ m ∈ knT fl true, Jn (tieN ts m.toNat) x y ∧ (tieN ts m.toNat).foe = k := by
  unfold Adj Jn
  constructor
  · rintro ⟨t, ht, e, q⟩
    obtain ⟨i, h1, h2⟩ := mem_kt.mp ht
    have hi : i < fl.length := (List.getElem?_eq_some_iff.mp h2).1
    refine ⟨(i : Int), mem_knT.mpr ⟨by omega, by rw [Int.toNat_natCast]; exact h2⟩, ?_⟩
    rw [Int.toNat_natCast, tieN_of h1]
    exact ⟨q, e⟩
  · rintro ⟨m, hm, q, e⟩
    obtain ⟨⟨m0, m1⟩, h2⟩ := mem_knT.mp hm
    have hi : m.toNat < ts.length := by omega
    have h1 : ts[m.toNat]? = some (tieN ts m.toNat) := by
      unfold tieN
      rw [List.getD_eq_getElem?_getD, List.getElem?_eq_getElem hi]
      rfl
    exact ⟨tieN ts m.toNat, mem_kt.mpr ⟨_, h1, h2⟩, e, q⟩
def fpar (ts : List Tie) : List Int → Bool
  | [] => false
  | m :: ns => (tieN ts m.toNat).foe ^^ fpar ts ns
theorem way_rp {ts : List Tie} {fl : List Bool} (hl : ts.length = fl.length) {e s : Int} {qs ns : List Int} (h : Way (nN ts (knT fl true)) e s qs ns) : RP (kt ts fl) s e (fpar ts ns) := by
  induction h with
  | one => exact .nil
  | cons w hm _ ih =>
    obtain ⟨h1, h2⟩ := mem_nN.mp hm
    exact (RP.one ((adj_kt hl).mpr ⟨_, h1, h2, rfl⟩)).trans ih
def cntF (ts : List Tie) (ns : List Int) : Nat := (ns.filter fun m => (tieN ts m.toNat).foe).length
theorem cntF_par (ts : List Tie) : ∀ ns : List Int, decide (((cntF ts ns : Nat) : Int) % 2 = 1) = fpar ts ns
  | [] => rfl
  | m :: ns => by
    have ih := cntF_par ts ns
    show _ = ((tieN ts m.toNat).foe ^^ fpar ts ns)
    rw [← ih]
    unfold cntF
    cases h : (tieN ts m.toNat).foe
    · rw [List.filter_cons_of_neg (by simp [h])]
      simp
    · rw [List.filter_cons_of_pos (by simp [h]), List.length_cons]
      rw [show ((((ns.filter fun m => (tieN ts m.toNat).foe).length + 1 : Nat) : Int)) = (((ns.filter fun m => (tieN ts m.toNat).foe).length : Nat) : Int) + 1 from by omega]
      generalize (((ns.filter fun m => (tieN ts m.toNat).foe).length : Nat) : Int) = z
      rw [Bool.eq_iff_iff]
      simp only [decide_eq_true_eq, Bool.true_xor, Bool.not_eq_true', decide_eq_false_iff_not]
      omega
theorem fpar_snoc (ts : List Tie) (ns : List Int) (m : Int) : fpar ts (ns ++ [m]) = (fpar ts ns ^^ (tieN ts m.toNat).foe) := by
  induction ns with
  | nil =>
    show ((tieN ts m.toNat).foe ^^ false) = (false ^^ (tieN ts m.toNat).foe)
    cases (tieN ts m.toNat).foe <;> rfl
  | cons x ns ih =>
    show ((tieN ts x.toNat).foe ^^ fpar ts (ns ++ [m])) = (((tieN ts x.toNat).foe ^^ fpar ts ns) ^^ _)
    rw [ih, Bool.xor_assoc]
def Kps (kts : List Tie) (t : Tie) : Prop := ¬ Rch kts t.one t.other ∨ RP kts t.one t.other t.foe
theorem xor3 (a b c : Bool) : (a ^^ c) = ((a ^^ b) ^^ (b ^^ c)) := by cases a <;> cases b <;> cases c <;> rfl
theorem xor3' (a b c : Bool) : (a ^^ c) = ((a ^^ b) ^^ (c ^^ b)) := by cases a <;> cases b <;> cases c <;> rfl
/-- sides that hold -/
theorem GS.walk {ts : List Tie} {n : Nat} {g s : Int → Int} (h : GS ts n g s true) {x y : Int} {p : Bool} (r : RP ts x y p) : (bit (s x) ^^ bit (s y)) = p := by
  induction r with
  | nil => exact Bool.xor_self _
  | step r ad ih =>
    obtain ⟨t, ht, e, q⟩ := ad
    have hy := h.yes rfl t ht
    rw [← e, ← hy]
    rcases q with ⟨q1, q2⟩ | ⟨q1, q2⟩
    · rw [q1, q2, ← ih]
      exact xor3 _ _ _
    · rw [q1, q2, ← ih]
      exact xor3' _ _ _
theorem GS.calm {ts : List Tie} {n : Nat} {g s : Int → Int} (h : GS ts n g s true) : ¬ Odd ts n := by
  rintro ⟨x, _, r⟩
  have := h.walk r
  rw [Bool.xor_self] at this
  cases this
theorem rp_one {ts : List Tie} {n : Nat} (h : ¬ Odd ts n) {x y : Int} (hx : 0 ≤ x ∧ x < n) {p q : Bool} (r : RP ts x y p) (r' : RP ts x y q) : p = q := by
  by_cases e : p = q
  · exact e
  · refine absurd ⟨x, hx, ?_⟩ h
    have := r.trans r'.symm
    rw [show (p ^^ q) = true from by cases p <;> cases q <;> simp_all] at this
    exact this
theorem GS.keeps {ts : List Tie} {n : Nat} {g s : Int → Int} (h : GS ts n g s true) {t : Tie} (ok : TieOk n t) : Kps ts t ↔ (g t.one ≠ g t.other ∨ (bit (s t.one) ^^ bit (s t.other)) = t.foe) := by
  have back : g t.one = g t.other → Rch ts t.one t.other := fun e => by
    have r1 : Rch ts (g t.one) t.one := ⟨_, h.rp t.one ok.1 ok.2.1⟩
    have r2 : Rch ts (g t.other) t.other := ⟨_, h.rp t.other ok.2.2.1 ok.2.2.2.1⟩
    rw [← e] at r2
    exact r1.symm.trans r2
  constructor
  · rintro (h1 | h1)
    · exact .inl fun e => h1 (back e)
    · exact .inr (h.walk h1)
  · rintro (h1 | h1)
    · exact .inl fun r => h1 (h.same r)
    · by_cases r : Rch ts t.one t.other
      · obtain ⟨p, rp⟩ := r
        have := h.walk rp
        rw [h1] at this
        rw [← this] at rp
        exact .inr rp
      · exact .inl r
theorem Odd.mono {ts us : List Tie} {n : Nat} (h : ∀ t ∈ ts, t ∈ us) (o : Odd ts n) : Odd us n := by
  obtain ⟨x, hx, r⟩ := o
  exact ⟨x, hx, r.mono h⟩
theorem dec_int' (a b : Int) : decide (V.int a = V.int b) = decide (a = b) := by
  by_cases h : a = b
  · rw [decide_eq_true h, h, decide_eq_true rfl]
  · rw [decide_eq_false h, decide_eq_false (fun z => h (V.int.inj z))]
/-! ### the stand, as it lies in the heap -/
theorem ps_never {X : Cx} {st : Stmt} : PS X st (fun _ _ _ => False) := ⟨fun _ _ _ _ _ _ h => h.elim⟩
theorem WF.lev {N : Int → List Nu} {s : Int} {ws : List We} (h : WF N s ws) : ∀ (k : Nat) (y : Int) (f : Option (Int × Int)), (y, k, f) ∈ ws → ∃ l : List Int, l.length = k + 1 ∧ l.Nodup ∧ ∀ x ∈ l, ∃ j g, (x, j, g) ∈ ws ∧ j ≤ k
  | 0, y, f, hy => ⟨[y], rfl, by simp, fun x hx => ⟨0, f, by rw [List.mem_singleton.mp hx]; exact hy, Nat.le_refl _⟩⟩
  | k + 1, y, none, hy => by
    have := (h.non _ _ hy).2
    omega
  | k + 1, y, some (p, m), hy => by
    obtain ⟨j, g, hp, e, _⟩ := h.par _ _ _ _ hy
    have : j = k := by omega
    subst this
    obtain ⟨l, l1, l2, l3⟩ := WF.lev h j p g hp
    refine ⟨y :: l, by rw [List.length_cons, l1], List.nodup_cons.mpr ⟨fun hin => ?_, l2⟩, fun x hx => ?_⟩
    · obtain ⟨i, g', h1, h2⟩ := l3 y hin
      have := (we_one h.nd hy h1).1
      omega
    · rcases List.mem_cons.mp hx with z | z
      · exact ⟨j + 1, _, by rw [z]; exact hy, Nat.le_refl _⟩
      · obtain ⟨i, g', h1, h2⟩ := l3 x z
        exact ⟨i, g', h1, by omega⟩
theorem WF.low {N : Int → List Nu} {s : Int} {ws : List We} (h : WF N s ws) {k : Nat} {y : Int} {f : Option (Int × Int)} (hy : (y, k, f) ∈ ws) : k < ws.length := by
  obtain ⟨l, l1, l2, l3⟩ := h.lev k y f hy
  have := sub_len (ns := ws.map (·.1)) l2 fun x hx => by
    obtain ⟨j, g, h1, _⟩ := l3 x hx
    exact List.mem_map.mpr ⟨_, h1, rfl⟩
  rw [List.length_map] at this
  omega
theorem WF.reach {ts : List Tie} {fl : List Bool} (hl : ts.length = fl.length) {s : Int} {ws : List We} (h : WF (nN ts (knT fl true)) s ws) (y : Int) : y ∈ ws.map (·.1) ↔ Rch (kt ts fl) s y := by
  constructor
  · intro hy
    obtain ⟨k, f, he⟩ := we_key hy
    induction k generalizing y f with
    | zero =>
      cases f with
      | none =>
        rw [(h.non _ _ he).1]
        exact Rch.refl
      | some pm =>
        obtain ⟨j, g, _, e, _⟩ := h.par y 0 pm.1 pm.2 he
        omega
    | succ k ih =>
      cases f with
      | none =>
        have := (h.non _ _ he).2
        omega
      | some pm =>
        obtain ⟨j, g, hp, e, hm⟩ := h.par y (k + 1) pm.1 pm.2 he
        have : j = k := by omega
        subst this
        have r := ih pm.1 (List.mem_map.mpr ⟨_, hp, rfl⟩) g hp
        obtain ⟨h1, h2⟩ := mem_nN.mp hm
        exact r.trans (Rch.adj ((adj_kt hl).mpr ⟨_, h1, h2, rfl⟩))
  · intro r
    refine r.ind (fun x => x ∈ ws.map (·.1)) (List.mem_map.mpr ⟨_, h.root, rfl⟩) fun x y k hx ad => ?_
    obtain ⟨k', f, he⟩ := we_key hx
    obtain ⟨m, hm, hj, _⟩ := (adj_kt hl).mp ad
    obtain ⟨kk, ff, h1, _⟩ := h.cl _ he (y, m) (mem_nN.mpr ⟨hm, hj⟩)
    exact List.mem_map.mpr ⟨_, h1, rfl⟩
theorem Paired.unsnoc {α β : Type} {F : α → β → Prop} {b : β} : ∀ {m : List β} {l : List α}, Paired F l (m ++ [b]) → ∃ l' a, l = l' ++ [a] ∧ Paired F l' m ∧ F a b
  | [], _, .cons r .nil => ⟨[], _, rfl, .nil, r⟩
  | y :: m, _, .cons r t => by
    obtain ⟨l', a, e, h1, h2⟩ := Paired.unsnoc t
    exact ⟨_ :: l', a, by rw [e]; rfl, .cons r h1, h2⟩
theorem Way.num {ts : List Tie} {kn : List Int} {e s : Int} {qs ns : List Int} (h : Way (nN ts kn) e s qs ns) : ∀ m ∈ ns, m ∈ kn := by
  induction h with
  | one =>
    intro m hm
    cases hm
  | cons _ hm _ ih =>
    intro m hmm
    rcases List.mem_cons.mp hmm with z | z
    · rw [z]
      exact (mem_nN.mp hm).1
    · exact ih m z
def DfM (P : Program) (w : World) (K : PySem.W.Frag) (mg : Str → Option Value) (base : Heap) (k : Nat) (C : Addr) (m : Str) (ps : List Str) (sp : Sp) : Prop := ∃ (f : Addr) (fd : FuncData), FnOk P w K mg base CX0 k f fd ps sp ∧ Meth K C m f ∧ Binds K fd ps []
theorem sm1 : ¬ (("many" : Str) = "ties") := by decide +kernel
theorem sm2 : ¬ (("many" : Str) = "kept") := by decide +kernel
theorem sm3 : ¬ (("many" : Str) = "lost") := by decide +kernel
theorem sm4 : ¬ (("ties" : Str) = "kept") := by decide +kernel
theorem sm5 : ¬ (("ties" : Str) = "lost") := by decide +kernel
theorem sm6 : ¬ (("kept" : Str) = "lost") := by decide +kernel
def stF (n : Int) (T Kk Lo : Addr) : List (Str × V) := putF "lost" (.ref Lo) (putF "kept" (.ref Kk) (putF "ties" (.ref T) (putF "many" (.int n) [])))
theorem stF_many (n : Int) (T Kk Lo : Addr) : (stF n T Kk Lo).lookup ("many" : Str) = some (.int n) := by
  unfold stF
  rw [lookup_putF, if_neg sm3, lookup_putF, if_neg sm2, lookup_putF, if_neg sm1, lookup_putF, if_pos rfl]
theorem stF_ties (n : Int) (T Kk Lo : Addr) : (stF n T Kk Lo).lookup ("ties" : Str) = some (.ref T) := by
  unfold stF
  rw [lookup_putF, if_neg sm5, lookup_putF, if_neg sm4, lookup_putF, if_pos rfl]
theorem stF_kept (n : Int) (T Kk Lo : Addr) : (stF n T Kk Lo).lookup ("kept" : Str) = some (.ref Kk) := by
  unfold stF
  rw [lookup_putF, if_neg sm6, lookup_putF, if_pos rfl]
theorem stF_lost (n : Int) (T Kk Lo : Addr) : (stF n T Kk Lo).lookup ("lost" : Str) = some (.ref Lo) := by
  unfold stF
  rw [lookup_putF, if_pos rfl]
theorem stF_no (n : Int) (T Kk Lo : Addr) {m : Str} (h1 : ¬ m = "lost") (h2 : ¬ m = "kept") (h3 : ¬ m = "ties") (h4 : ¬ m = "many") : (stF n T Kk Lo).lookup m = none := by
  unfold stF
  rw [lookup_putF, if_neg h1, lookup_putF, if_neg h2, lookup_putF, if_neg h3, lookup_putF, if_neg h4]
  all_goals rfl
structure StA (C : Addr) (H : Hp) (p T Kk Lo : Addr) (n : Nat) (ts : List Tie) (fl : List Bool) : Prop where
  ob : ∃ dx, H p = some (.ins C dx (stF n T Kk Lo))
  hT : ∃ us, H T = some (.lst us) ∧ Paired (TieV H) us ts
  hK : H Kk = some (.lst ((knT fl true).map V.int))
  hL : H Lo = some (.lst ((knT fl false).map V.int))
  n1 : T ≠ Kk
  n2 : T ≠ Lo
  n3 : Kk ≠ Lo
theorem StA.same {C : Addr} {H H' : Hp} {p T Kk Lo : Addr} {n : Nat} {ts : List Tie} {fl : List Bool} (h : StA C H p T Kk Lo n ts fl) (s : Same H H') : StA C H' p T Kk Lo n ts fl := by
  obtain ⟨⟨dx, h1⟩, ⟨us, h2, h3⟩, h4, h5, a, b, c⟩ := h
  exact ⟨⟨dx, s _ _ h1⟩, ⟨us, s _ _ h2, ties_tk (Same.tk s) h3⟩, s _ _ h4, s _ _ h5, a, b, c⟩
structure SI (n : Nat) (ts : List Tie) (fl : List Bool) : Prop where
  len : ts.length = fl.length
  few : ts.length ≤ 120
  ok : ∀ t ∈ ts, TieOk n t
  calm : ¬ Odd (kt ts fl) n
  n1 : 1 ≤ n
  n40 : n ≤ 40
def KS (p T Kk Lo : Addr) (H H' : Hp) : Prop := ∀ b o, b ≠ p → b ≠ T → b ≠ Kk → b ≠ Lo → H b = some o → H' b = some o
theorem KS.trans {p T Kk Lo : Addr} {H H1 H2 : Hp} (a : KS p T Kk Lo H H1) (b : KS p T Kk Lo H1 H2) : KS p T Kk Lo H H2 := fun x o h1 h2 h3 h4 h => b x o h1 h2 h3 h4 (a x o h1 h2 h3 h4 h)
theorem Same.ks {p T Kk Lo : Addr} {H H' : Hp} (s : Same H H') : KS p T Kk Lo H H' := fun b o _ _ _ _ h => s b o h
structure STx (K : PySem.W.Frag) (C : Addr) : Prop where
  cl : Cls K C
  nM : NoAttr K C "many"
  nT : NoAttr K C "ties"
  nK : NoAttr K C "kept"
  nL : NoAttr K C "lost"
def spSInit (C : Addr) : Sp := fun vs H Q _ => ∃ (p dx : Addr) (n : Nat), vs = [.ref p, .int n] ∧ H p = some (.ins C dx []) ∧ ∀ T Kk Lo H', H T = none → H Kk = none → H Lo = none → StA C H' p T Kk Lo n [] [] → (∀ b o, H b = some o → b ≠ p → H' b = some o) → Q .non H'
def spSWeb (C : Addr) : Sp := fun vs H Q _ => ∃ (p T Kk Lo : Addr) (n : Nat) (ts : List Tie) (fl : List Bool), vs = [.ref p] ∧ StA C H p T Kk Lo n ts fl ∧ ∀ v H', Same H H' → WebAt H' v n ts → Q v H'
def spSBroken (C : Addr) : Sp := fun vs H Q _ => ∃ (p T Kk Lo : Addr) (n : Nat) (ts : List Tie) (fl : List Bool), vs = [.ref p] ∧ StA C H p T Kk Lo n ts fl ∧ ∀ r H', Same H H' → H' r = some (.tup ((knT fl false).map V.int)) → Q (.ref r) H'
def spSBack (C : Addr) : Sp := fun vs H Q _ => ∃ (p T Kk Lo : Addr) (n : Nat) (ts : List Tie) (fl : List Bool) (t : Tie) (b : Bool), vs = [.ref p] ∧ StA C H p T Kk Lo n (ts ++ [t]) (fl ++ [b]) ∧ ts.length = fl.length ∧ ∀ H', KS p T Kk Lo H H' → StA C H' p T Kk Lo n ts fl → Q .non H'
def spSCome (C : Addr) : Sp := fun vs H Q _ => ∃ (p T Kk Lo : Addr) (n : Nat) (ts : List Tie) (fl : List Bool) (t : Tie), vs = [.ref p, .int t.one, .int t.other, .str (kindS t.foe)] ∧ StA C H p T Kk Lo n ts fl ∧ SI n ts fl ∧ TieOk n t ∧
  (Kps (kt ts fl) t → ∀ H', KS p T Kk Lo H H' → StA C H' p T Kk Lo n (ts ++ [t]) (fl ++ [true]) → Q .non H') ∧
  (¬ Kps (kt ts fl) t → ∀ r a b qs ns H', KS p T Kk Lo H H' → StA C H' p T Kk Lo n (ts ++ [t]) (fl ++ [false]) → H' r = some (.tup [.ref a, .ref b]) → H' a = some (.tup (qs.map V.int)) → H' b = some (.tup ((ns ++ [(ts.length : Int)]).map V.int)) → Way (nN ts (knT fl true)) t.other t.one qs ns → Exa (nN ts (knT fl true)) t.one t.other qs ns → (fpar ts ns ^^ t.foe) = true → Q (.ref r) H')
def spFoesIn : Sp := fun vs H Q _ => ∃ (wv : V) (r b : Addr) (x : V) (n : Int) (ts : List Tie) (ms : List Int), vs = [wv, .ref r] ∧ WebAt H wv n ts ∧ H r = some (.tup [x, .ref b]) ∧ H b = some (.tup (ms.map V.int)) ∧ ms.length ≤ 300 ∧ (∀ m ∈ ms, 0 ≤ m ∧ m < (ts.length : Int)) ∧ ∀ H', Same H H' → Q (.int (cntF ts ms : Nat)) H'
section
variable {P : Program} {w : World} {K : PySem.W.Frag} {mg : Str → Option Value} {base : Heap}
theorem ok_S_init {f C : Addr} {fd : FuncData} (F : Fun K "__init__" "Stand.__init__" s_Stand_init f fd) (T : STx K C) : FnOk P w K mg base CX0 1 f fd ["self", "many"] (spSInit C) := by
  refine F.ok sc_Stand_init (fun vs H Q E h => ?_) (fun cdv A outer s H vs Q E hr h => ?_)
  · obtain ⟨p, dx, n, rfl, _⟩ := h
    rfl
  · obtain ⟨p, dx, n, rfl, hp, q⟩ := h
    refine ⟨_, pss_cons (ps_fld (pv 0) (pv 1) rfl) (pss_cons (ps_fld (pv 0) (pe_lst pa_nil) rfl) (pss_cons (ps_fld (pv 0) (pe_lst pa_nil) rfl) (pss_one (ps_fld (pv 0) (pe_lst pa_nil) rfl)))), ?_⟩
    refine ⟨.int n, rfl, .ref p, rfl, p, C, dx, [], rfl, hp, T.cl, T.nM, by show 0 < 1000; decide, ?_⟩
    refine ⟨Nat.zero_le _, fun Ti nT => ?_⟩
    have nTp : Ti ≠ p := (ne_of_none upd_same nT).symm
    have nT0 : H Ti = none := by rw [upd_ne nTp] at nT; exact nT
    refine ⟨.ref p, rfl, p, C, dx, _, rfl, by rw [upd_ne (Ne.symm nTp)]; exact upd_same, T.cl, T.nT, by show 1 < 1000; decide, ?_⟩
    refine ⟨Nat.zero_le _, fun Kk nK => ?_⟩
    have nKp : Kk ≠ p := (ne_of_none upd_same nK).symm
    have nKT : Kk ≠ Ti := by
      have h1 : (upd (upd (upd H p (.ins C dx (putF "many" (V.int n) []))) Ti (.lst [])) p (.ins C dx (putF "ties" (V.ref Ti) (putF "many" (V.int n) [])))) Ti = some (.lst []) := by rw [upd_ne nTp]; exact upd_same
      exact (ne_of_none h1 nK).symm
    have nK0 : H Kk = none := by rw [upd_ne nKp, upd_ne nKT, upd_ne nKp] at nK; exact nK
    refine ⟨.ref p, rfl, p, C, dx, _, rfl, by rw [upd_ne (Ne.symm nKp)]; exact upd_same, T.cl, T.nK, by show 2 < 1000; decide, ?_⟩
    refine ⟨Nat.zero_le _, fun Lo nL => ?_⟩
    have nLp : Lo ≠ p := (ne_of_none upd_same nL).symm
    have nLK : Lo ≠ Kk := by
      refine (ne_of_none (o := .lst []) ?_ nL).symm
      rw [upd_ne nKp]
      exact upd_same
    have nLT : Lo ≠ Ti := by
      refine (ne_of_none (o := .lst []) ?_ nL).symm
      rw [upd_ne nTp, upd_ne (Ne.symm nKT), upd_ne nTp]
      exact upd_same
    have nL0 : H Lo = none := by rw [upd_ne nLp, upd_ne nLK, upd_ne nLp, upd_ne nLT, upd_ne nLp] at nL; exact nL
    refine ⟨.ref p, rfl, p, C, dx, _, rfl, by rw [upd_ne (Ne.symm nLp)]; exact upd_same, T.cl, T.nL, by show 3 < 1000; decide, ?_⟩
    refine q Ti Kk Lo _ nT0 nK0 nL0 ⟨⟨dx, upd_same⟩, ⟨[], ?_, .nil⟩, ?_, ?_, Ne.symm nKT, Ne.symm nLT, Ne.symm nLK⟩ fun b o e hb => ?_
    · rw [upd_ne nTp, upd_ne (Ne.symm nLT), upd_ne nTp, upd_ne (Ne.symm nKT), upd_ne nTp]
      exact upd_same
    · rw [upd_ne nKp, upd_ne (Ne.symm nLK), upd_ne nKp]
      exact upd_same
    · rw [upd_ne nLp]
      exact upd_same
    · rw [upd_ne hb, upd_ne (ne_of_none e nL0), upd_ne hb, upd_ne (ne_of_none e nK0), upd_ne hb, upd_ne (ne_of_none e nT0), upd_ne hb]
      exact e
theorem ok_S_web {f C : Addr} {fd : FuncData} (F : Fun K "web" "Stand.web" s_Stand_web f fd) (T : STx K C) (M : Free mg) : FnOk P w K mg base CX0 1 f fd ["self"] (spSWeb C) := by
  refine F.ok sc_Stand_web (fun vs H Q E h => ?_) (fun cdv A outer s H vs Q E hr h => ?_)
  · obtain ⟨p, Ti, Kk, Lo, n, ts, fl, rfl, _⟩ := h
    rfl
  · obtain ⟨p, Ti, Kk, Lo, n, ts, fl, rfl, S, q⟩ := h
    refine ⟨_, pss_one (ps_ret (pe_tup (pa_cons (pe_fld (pv 0) rfl) (pa_cons (pe_callTy call_tuple_of (by rfl) M.tuple (by decide +kernel) (pa_cons (pe_fld (pv 0) rfl) pa_nil)) pa_nil)))), ?_⟩
    obtain ⟨dx, h1⟩ := S.ob
    obtain ⟨us, h2, hp⟩ := S.hT
    refine ⟨.ref p, rfl, p, C, dx, _, _, rfl, h1, T.cl, T.nM, stF_many _ _ _ _, .ref p, rfl, p, C, dx, _, _, rfl, h1, T.cl, T.nT, stF_ties _ _ _ _, Ti, us, rfl, .inl ⟨SqL.of h2, fun b nb => ⟨by show 2 ≤ sizeLine; decide, fun a na => ?_⟩⟩⟩
    have s2 := (same_new (o := .tup us) nb).trans (same_new (o := .tup [.int n, .ref b]) na)
    exact q _ _ s2 ⟨a, b, us, rfl, upd_same, same_new na _ _ upd_same, ties_tk (Same.tk s2) hp⟩
end
section
variable {P : Program} {w : World} {K : PySem.W.Frag} {mg : Str → Option Value} {base : Heap}
theorem ok_foes_in {f : Addr} {fd : FuncData} (F : Fun K "foes_in" "foes_in" s_foes_in f fd) (M : Free mg) : FnOk P w K mg base CX0 1 f fd ["web", "ring"] spFoesIn := by
  refine F.ok sc_foes_in (fun vs H Q E h => ?_) (fun cdv A outer s H vs Q E hr h => ?_)
  · obtain ⟨wv, r, b, x, n, ts, ms, rfl, _⟩ := h
    rfl
  · obtain ⟨wv, r, b, x, n, ts, ms, rfl, ⟨wa, wb, us, rfl, hwa, hwb, hp⟩, hr1, hb, lm, hms, q⟩ := h
    refine ⟨_, (pss_one (ps_ret (pe_callB call_len_seq (by rfl) M.len PySem.boot_len (pa_cons (pe_lc (own := [("tie", 2)]) (g := gName 2) (te := tVar 2) rfl sc_foes_in.nd (pi_tup (pe_ix ix_tup (pv 1) pe_int (fun _ _ => rfl))) (blkOk_by (N := N_foes_in) (sc := defScope s_foes_in) (own := [("tie", 2)]) (by decide +kernel)) (fun _ _ _ _ _ => (pg_name (i := 2) sc_foes_in.nd rfl (.inl rfl))) (fun _ _ _ _ _ => (pts_one (pt_cmpR op_eq (pe_ix (r := rIxT K) ix_tup (pe_ix (r := rIxT K) ix_tup (pe_ix (r := rIxT K) ix_tup (pv 0) pe_int (fun _ _ => rfl)) (pv 2) (fun _ _ => rfl)) pe_int (fun _ _ => rfl)) pe_str (nomark _)))) (fun _ _ _ _ _ => (pv 2))) pa_nil)))), ?_⟩
    have lu : us.length = ts.length := Paired.length hp
    refine ⟨.ref r, rfl, r, _, 1, .ref b, rfl, rfl, SqT.of hr1, rfl, b, rfl, ⟨_, SqT.of hb⟩, fun Z nZ => ?_⟩
    refine lc_tup (xs := ms.map V.int) (fun i H' => H' Z = some (.lst (((ms.take i).filter fun m => (tieN ts m.toNat).foe).map V.int)) ∧ Same H H') ⟨upd_same, same_new nZ⟩ (fun i H' _ h => SqT.of (h.2 _ _ hb)) ?_ ?_
    · rintro i y H1 ey ⟨hZ, s1⟩
      rw [List.getElem?_map] at ey
      obtain ⟨m, em, rfl⟩ := Option.map_eq_some_iff.mp ey
      have hi := (List.getElem?_eq_some_iff.mp em).1
      have hm := hms m (List.mem_of_getElem? em)
      obtain ⟨v, e1, e2⟩ := getI (xs := us) hm.1 (by omega)
      obtain ⟨t, et, c, rfl, hc⟩ := Paired.at hp e2
      have ett : tieN ts m.toNat = t := tieN_of et
      refine ⟨rfl, .ref wa, rfl, wa, _, 1, .ref wb, rfl, rfl, SqT.of (s1 _ _ hwa), rfl, .int m, rfl, wb, us, m, .ref c, rfl, rfl, SqT.of (s1 _ _ hwb), e1, c, _, 2, .str (kindS t.foe), rfl, rfl, SqT.of (s1 _ _ hc), rfl, rfl, _, rfl, ?_⟩
      have lf : ((ms.take i).filter fun m => (tieN ts m.toNat).foe).length ≤ 300 := by
        have := List.length_filter_le (fun m : Int => (tieN ts m.toNat).foe) (ms.take i)
        rw [List.length_take] at this
        omega
      have ek : decide (V.str (kindS t.foe) = V.str "foe") = t.foe := by cases t.foe <;> decide +kernel
      rw [ek, List.take_add_one, em, List.filter_append]
      cases hf : t.foe with
      | true =>
        refine ⟨.int m, rfl, _, hZ, by rw [List.length_map]; exact small1000 (by omega), ?_, Same.mut s1 nZ⟩
        rw [upd_same, List.map_append]
        have : List.filter (fun m => (tieN ts m.toNat).foe) (some m).toList = [m] := by
          show List.filter _ [m] = [m]
          rw [List.filter_cons_of_pos (by rw [ett]; exact hf)]
          rfl
        rw [this]
        rfl
      | false =>
        have : List.filter (fun m => (tieN ts m.toNat).foe) (some m).toList = [] := by
          show List.filter _ [m] = []
          rw [List.filter_cons_of_neg (by rw [ett, hf]; simp)]
          rfl
        rw [this, List.append_nil]
        exact ⟨hZ, s1⟩
    · rintro H1 ⟨hZ, s1⟩
      rw [List.length_map, List.take_length] at hZ
      refine ⟨Z, _, rfl, .inl (SqL.of hZ), ?_⟩
      rw [List.length_map]
      exact q _ s1
theorem ok_S_come {f C : Addr} {fd : FuncData} (F : Fun K "come" "Stand.come" s_Stand_come f fd) (T : STx K C) (M : Free mg) (D_web : DfM P w K mg base 1 C "web" ["self"] (spSWeb C)) (D_around : Df P w K mg base 1 "ties_around" ["web", "numbers"] spAround) (D_walk : Df P w K mg base 1 "walk_from" ["start", "around"] spWalkFrom) (D_way : Df P w K mg base 1 "way_to" ["end", "walk"] spWayTo) (D_foes : Df P w K mg base 1 "foes_in" ["web", "ring"] spFoesIn) : FnOk P w K mg base CX0 2 f fd ["self", "one", "other", "kind"] (spSCome C) := by
  obtain ⟨fW, fdW, GW, mW, bW⟩ := D_web
  obtain ⟨f_ar, fd_ar, G_ar, g_ar, k_ar, b_ar⟩ := D_around
  obtain ⟨f_wk, fd_wk, G_wk, g_wk, k_wk, b_wk⟩ := D_walk
  obtain ⟨f_wy, fd_wy, G_wy, g_wy, k_wy, b_wy⟩ := D_way
  obtain ⟨f_fo, fd_fo, G_fo, g_fo, k_fo, b_fo⟩ := D_foes
  refine F.ok sc_Stand_come (fun vs H Q E h => ?_) (fun cdv A outer s H vs Q E hr h => ?_)
  · obtain ⟨p, Ti, Kk, Lo, n, ts, fl, t, rfl, _⟩ := h
    rfl
  · obtain ⟨p, Ti, Kk, Lo, n, ts, fl, t, rfl, S, si, okt, qk, ql⟩ := h
    have hu := room1 hr
    refine ⟨_, (pss_cons (ps_set (i := 4) sc_Stand_come.nd rfl (.inl rfl) (pe_callB call_len_seq (by rfl) M.len PySem.boot_len (pa_cons (pe_fld (pv 0) rfl) pa_nil)))
      (pss_cons (ps_set (i := 5) sc_Stand_come.nd rfl (.inl rfl) (pe_call G_wk hr (by rfl) g_wk k_wk b_wk .nil pass0 (pa_cons (pv 1) (pa_cons (pe_call G_ar hr (by rfl) g_ar k_ar b_ar .nil pass0 (pa_cons (pe_meth0 (pv 0) T.cl mW GW hr bW .nil pass0) (pa_cons (pe_fld (pv 0) rfl) pa_nil))) pa_nil))))
      (pss_cons (ps_expr (pe_bm PySem.F.plainAttrs_list PySem.F.slot_list_append PySem.F.type_list_append mt_append (pe_fld (pv 0) rfl) (pa_cons (pe_tup (pa_cons (pv 1) (pa_cons (pv 2) (pa_cons (pv 3) pa_nil)))) pa_nil)))
      (Evl.pss_cut (ps_if (pt_cmp (pc_din hu (pv 2) (pv 5)))
        (pss_cons (ps_asg (pe_call G_wy hr (by rfl) g_wy k_wy b_wy .nil pass0 (pa_cons (pv 2) (pa_cons (pv 5) pa_nil))) (pg_tup rfl (pgs_cons (pg_name (i := 6) sc_Stand_come.nd rfl (.inl rfl)) (pgs_cons (pg_name (i := 7) sc_Stand_come.nd rfl (.inl rfl)) pgs_nil))))
        (pss_cons (ps_set (i := 8) sc_Stand_come.nd rfl (.inl rfl) (pe_tup (pa_cons (pv 6) (pa_cons (pe_op op_catU (pv 7) (pe_tup (pa_cons (pv 4) pa_nil))) pa_nil))))
        (pss_one (ps_if (pt_cmpR op_eq (pe_op op_mod (pe_call G_fo hr (by rfl) g_fo k_fo b_fo .nil pass0 (pa_cons (pe_meth0 (pv 0) T.cl mW GW hr bW .nil pass0) (pa_cons (pv 8) pa_nil))) pe_int) pe_int (nomark _))
          (pss_cons (ps_expr (pe_bm PySem.F.plainAttrs_list PySem.F.slot_list_append PySem.F.type_list_append mt_append (pe_fld (pv 0) rfl) (pa_cons (pv 4) pa_nil)))
          (pss_one (ps_ret (pv 8))))
          pss_nil))))
        pss_nil)
      (pss_cons (ps_expr (pe_bm PySem.F.plainAttrs_list PySem.F.slot_list_append PySem.F.type_list_append mt_append (pe_fld (pv 0) rfl) (pa_cons (pv 4) pa_nil)))
      (pss_one (ps_ret pe_non))))))), ?_⟩
    obtain ⟨dx, h1⟩ := id S.ob
    obtain ⟨us, h2, hp⟩ := id S.hT
    have lu : us.length = ts.length := Paired.length hp
    have few := si.few
    have hlen := si.len
    have pT : p ≠ Ti := ne_of h1 h2 (by intro z; cases z)
    have pK : p ≠ Kk := ne_of h1 S.hK (by intro z; cases z)
    have pL : p ≠ Lo := ne_of h1 S.hL (by intro z; cases z)
    have no : ∀ m : Str, ¬ m = "lost" → ¬ m = "kept" → ¬ m = "ties" → ¬ m = "many" → (stF n Ti Kk Lo).lookup m = none := fun m a b c d => stF_no _ _ _ _ a b c d
    have knl := knT_len fl true
    have knl2 := knT_len fl false
    have kin : ∀ m ∈ knT fl true, 0 ≤ m ∧ m < (ts.length : Int) := fun m hm => by
      have := (mem_knT.mp hm).1
      omega
    have tmem : ∀ m ∈ knT fl true, tieN ts m.toNat ∈ ts := fun m hm => by
      have h3 := kin m hm
      have h4 : m.toNat < ts.length := by omega
      unfold tieN
      rw [List.getD_eq_getElem?_getD, List.getElem?_eq_getElem h4]
      exact List.getElem_mem h4
    have hN : ∀ x q, q ∈ nN ts (knT fl true) x → 0 ≤ q.1 ∧ q.1 < (n : Int) := fun x q hq => by
      obtain ⟨a1, a2⟩ := mem_nN.mp hq
      have o := si.ok _ (tmem _ a1)
      rcases a2 with ⟨_, e⟩ | ⟨e, _⟩
      · rw [← e]
        exact ⟨o.2.2.1, o.2.2.2.1⟩
      · rw [← e]
        exact ⟨o.1, o.2.1⟩
    -- number
    refine ⟨.ref p, rfl, p, C, dx, _, _, rfl, h1, T.cl, T.nT, stF_ties _ _ _ _, Ti, us, rfl, .inl (SqL.of h2), ?_⟩
    rw [lu]
    -- walk
    refine ⟨.int t.one, rfl, .ref p, rfl, p, dx, _, rfl, h1, no _ (by decide +kernel) (by decide +kernel) (by decide +kernel) (by decide +kernel), p, Ti, Kk, Lo, n, ts, fl, rfl, S, fun v H1 s1 hW1 => ?_⟩
    have S1 := S.same s1
    refine ⟨.ref p, rfl, p, C, dx, _, _, rfl, s1 _ _ h1, T.cl, T.nK, stF_kept _ _ _ _, v, Kk, n, ts, knT fl true, rfl, hW1, by omega, S1.hK, by omega, kin, fun u H2 s2 hA2 => ?_⟩
    refine ⟨u, n, t.one, nN ts (knT fl true), rfl, hA2, okt.1, okt.2.1, by have := si.n40; omega, hN, fun D ws H3 s3 hw wf lws => ?_⟩
    have s13 := (s1.trans s2).trans s3
    have S3 := S.same s13
    obtain ⟨dx3, g1⟩ := id S3.ob
    obtain ⟨us3, g2, hp3⟩ := id S3.hT
    have n40 := si.n40
    -- the tie comes
    refine ⟨.ref p, rfl, p, C, dx3, _, _, rfl, g1, T.cl, T.nT, stF_ties _ _ _ _, .inl ⟨rfl, _, SqL.of g2⟩, .int t.one, rfl, .int t.other, rfl, .str (kindS t.foe), rfl, by show 3 ≤ sizeLine; decide, fun Z nZ => ?_⟩
    have sZ := same_new (o := .tup [.int t.one, .int t.other, .str (kindS t.foe)]) nZ
    have lu3 : us3.length = ts.length := Paired.length hp3
    refine ⟨Ti, us3, _, rfl, rfl, sZ _ _ g2, small1000 (by omega), ?_⟩
    have tk4 := tk_lst (ys := us3 ++ [.ref Z]) (sZ _ _ g2)
    have m1 : ∀ b o, b ≠ Ti → H3 b = some o → (upd (upd H3 Z (.tup [.int t.one, .int t.other, .str (kindS t.foe)])) Ti (.lst (us3 ++ [.ref Z]))) b = some o := fun b o hb e => by
      rw [upd_ne hb]
      exact sZ _ _ e
    have k4 : KS p Ti Kk Lo H (upd (upd H3 Z (.tup [.int t.one, .int t.other, .str (kindS t.foe)])) Ti (.lst (us3 ++ [.ref Z]))) := fun b o _ e2 _ _ e => m1 b o e2 (s13 b o e)
    have f1 := m1 p _ pT g1
    have f2 : (upd (upd H3 Z (.tup [.int t.one, .int t.other, .str (kindS t.foe)])) Ti (.lst (us3 ++ [.ref Z]))) Ti = some (.lst (us3 ++ [.ref Z])) := upd_same
    have f3 := m1 Kk _ (Ne.symm S.n1) S3.hK
    have f4 := m1 Lo _ (Ne.symm S.n2) S3.hL
    have fp : Paired (TieV (upd (upd H3 Z (.tup [.int t.one, .int t.other, .str (kindS t.foe)])) Ti (.lst (us3 ++ [.ref Z])))) (us3 ++ [.ref Z]) (ts ++ [t]) := Paired.snoc (ties_tk tk4 (ties_tk (Same.tk sZ) hp3)) ⟨Z, rfl, tk4 _ _ upd_same⟩
    have hw4 : WalkAt (upd (upd H3 Z (.tup [.int t.one, .int t.other, .str (kindS t.foe)])) Ti (.lst (us3 ++ [.ref Z]))) D ws := by
      obtain ⟨kvs, w1, w2⟩ := hw
      exact ⟨kvs, m1 D _ (ne_of w1 g2 (by intro z; cases z)) w1, wes_tk ((Same.tk sZ).trans tk4) w2⟩
    generalize upd (upd H3 Z (.tup [.int t.one, .int t.other, .str (kindS t.foe)])) Ti (.lst (us3 ++ [.ref Z])) = H4 at k4 f1 f2 f3 f4 fp hw4
    have reach := wf.reach hlen t.other
    refine ⟨fun σ' H' => ∃ (y6 y7 y8 : Option V), σ' = [some (.ref p), some (.int t.one), some (.int t.other), some (.str (kindS t.foe)), some (.int (ts.length : Nat)), some (.ref D), y6, y7, y8] ∧ Same H4 H' ∧ Kps (kt ts fl) t, ?_, ?_⟩
    · obtain ⟨kvs, w1, w2⟩ := id hw4
      refine ⟨.int t.other, rfl, .ref D, rfl, D, _, rfl, DGet.k (k := Sum.inl t.other) w1, _, rfl, ?_⟩
      by_cases hin : t.other ∈ ws.map (·.1)
      · obtain ⟨k, g, he⟩ := we_key hin
        obtain ⟨ad, ev, _⟩ := wes_some w2 wf.nd he
        rw [ev]
        have hk := wf.low he
        refine ⟨.int t.other, rfl, .ref D, rfl, t.other, t.one, D, ws, _, k, g, rfl, hw4, wf, he, by omega, fun r a b qs ns H5 s5 hr5 ha5 hb5 way exa ln => ?_⟩
        refine ⟨r, _, rfl, SqT.of hr5, rfl, _, _, rfl, _, _, rfl, rfl, ?_⟩
        refine ⟨.ref a, rfl, .ref b, rfl, .int (ts.length : Nat), rfl, by show 1 ≤ sizeLine; decide, fun o1 no1 => ?_⟩
        have so1 := same_new (o := .tup [.int (ts.length : Nat)]) no1
        refine ⟨b, o1, _, _, rfl, rfl, so1 _ _ hb5, upd_same, by rw [List.length_map]; show ns.length + 1 ≤ 100000; omega, fun r6 H6 s6 h6 => ⟨by show 2 ≤ sizeLine; decide, fun rr nrr => ?_⟩⟩
        have h6' : H6 r6 = some (.tup ((ns ++ [(ts.length : Int)]).map V.int)) := by rw [List.map_append]; exact h6
        have s7 := same_new (o := .tup [.ref a, .ref r6]) nrr
        have s47 := ((s5.trans so1).trans s6).trans s7
        have a7 := s7 _ _ (s6 _ _ (so1 _ _ ha5))
        have b7 := s7 _ _ h6'
        have r7 : (upd H6 rr (.tup [.ref a, .ref r6])) rr = some (.tup [.ref a, .ref r6]) := upd_same
        generalize upd H6 rr (.tup [.ref a, .ref r6]) = H7 at s47 a7 b7 r7
        -- the web with the tie
        have S7 : StA C H7 p Ti Kk Lo n (ts ++ [t]) (fl ++ []) := by
          rw [List.append_nil]
          exact ⟨⟨dx3, s47 _ _ f1⟩, ⟨_, s47 _ _ f2, ties_tk (Same.tk s47) fp⟩, s47 _ _ f3, s47 _ _ f4, S.n1, S.n2, S.n3⟩
        refine ⟨.ref p, rfl, p, dx3, _, rfl, s47 _ _ f1, no _ (by decide +kernel) (by decide +kernel) (by decide +kernel) (by decide +kernel), p, Ti, Kk, Lo, n, ts ++ [t], fl ++ [], rfl, S7, fun v8 H8 s8 hW8 => ?_⟩
        have nin := way.num
        have lnn := way.len
        refine ⟨.ref rr, rfl, v8, rr, r6, _, n, ts ++ [t], ns ++ [(ts.length : Int)], rfl, hW8, s8 _ _ r7, s8 _ _ b7, by rw [List.length_append]; show ns.length + 1 ≤ 300; omega, fun m hm => ?_, fun H9 s9 => ?_⟩
        · rw [List.length_append]
          show 0 ≤ m ∧ m < ((ts.length + 1 : Nat) : Int)
          rcases List.mem_append.mp hm with z | z
          · have := kin m (nin m z)
            omega
          · rw [List.mem_singleton.mp z]
            omega
        refine ⟨_, 2, rfl, rfl, (show (0 : Int) < 2 by decide), rfl, _, rfl, ?_⟩
        have par : decide (V.int (((cntF (ts ++ [t]) (ns ++ [(ts.length : Int)]) : Nat) : Int) % 2) = V.int 1) = (fpar ts ns ^^ t.foe) := by
          rw [dec_int', cntF_par, fpar_snoc]
          have e1 : tieN (ts ++ [t]) ((ts.length : Int)).toNat = t := tieN_of (by rw [Int.toNat_natCast, List.getElem?_append_right (Nat.le_refl _)]; simp)
          have e2 : ∀ ms : List Int, (∀ m ∈ ms, m ∈ knT fl true) → fpar (ts ++ [t]) ms = fpar ts ms := fun ms => by
            induction ms with
            | nil => exact fun _ => rfl
            | cons m ms ih =>
              intro hh
              show ((tieN (ts ++ [t]) m.toNat).foe ^^ fpar (ts ++ [t]) ms) = ((tieN ts m.toNat).foe ^^ fpar ts ms)
              rw [ih (fun x hx => hh x (List.mem_cons_of_mem _ hx))]
              have hm := kin m (hh m (by simp))
              have : tieN (ts ++ [t]) m.toNat = tieN ts m.toNat := by
                unfold tieN
                rw [List.getD_eq_getElem?_getD, List.getD_eq_getElem?_getD, List.getElem?_append_left (by omega)]
              rw [this]
          rw [e1, e2 ns nin]
        rw [par]
        have rpw := way_rp hlen way
        have s49 := s47.trans (s8.trans s9)
        have G1 := s49 _ _ f1
        have G2 := s49 _ _ f2
        have G3 := s49 _ _ f3
        have G4 := s49 _ _ f4
        have GP := ties_tk (Same.tk s49) fp
        have rr9 := s9 _ _ (s8 _ _ r7)
        have ra9 := s9 _ _ (s8 _ _ a7)
        have rb9 := s9 _ _ (s8 _ _ b7)
        cases hb : (fpar ts ns ^^ t.foe) with
        | true =>
          have nk : ¬ Kps (kt ts fl) t := by
            rintro (z | z)
            · exact z ⟨_, rpw⟩
            · have e := rp_one si.calm ⟨okt.1, okt.2.1⟩ rpw z
              rw [e, Bool.xor_self] at hb
              cases hb
          refine ⟨.ref p, rfl, p, C, dx3, _, _, rfl, G1, T.cl, T.nL, stF_lost _ _ _ _, .inl ⟨rfl, _, SqL.of G4⟩, .int (ts.length : Nat), rfl, Lo, _, _, rfl, rfl, G4, by rw [List.length_map]; exact small1000 (by omega), ?_⟩
          refine ⟨.ref rr, rfl, ?_⟩
          have tk := tk_lst (ys := (knT fl false).map V.int ++ [.int (ts.length : Nat)]) G4
          refine ql nk rr a r6 qs ns _ (fun b o a1 a2 a3 a4 e => ?_) ⟨⟨dx3, by rw [upd_ne pL]; exact G1⟩, ⟨_, by rw [upd_ne S.n2]; exact G2, ties_tk tk GP⟩, ?_, ?_, S.n1, S.n2, S.n3⟩ (tk _ _ rr9) (tk _ _ ra9) (tk _ _ rb9) way exa hb
          · rw [upd_ne a4]
            exact s49 _ _ (k4 b o a1 a2 a3 a4 e)
          · rw [upd_ne S.n3, knT_snoc, if_neg (by simp), List.append_nil]
            exact G3
          · rw [upd_same, knT_snoc, if_pos rfl, List.map_append, hlen]
            rfl
        | false =>
          refine ⟨_, _, _, rfl, s49, .inr ?_⟩
          have : fpar ts ns = t.foe := by
            revert hb
            cases fpar ts ns <;> cases t.foe <;> simp
          rw [← this]
          exact rpw
      · rw [wes_none w2 hin]
        exact ⟨none, none, none, rfl, Same.refl _, .inl fun r => hin (reach.mpr r)⟩
    · rintro σ' H5 ⟨y6, y7, y8, rfl, s5, hk⟩
      have G1 := s5 _ _ f1
      have G2 := s5 _ _ f2
      have G3 := s5 _ _ f3
      have G4 := s5 _ _ f4
      refine ⟨.ref p, rfl, p, C, dx3, _, _, rfl, G1, T.cl, T.nK, stF_kept _ _ _ _, .inl ⟨rfl, _, SqL.of G3⟩, .int (ts.length : Nat), rfl, Kk, _, _, rfl, rfl, G3, by rw [List.length_map]; exact small1000 (by omega), ?_⟩
      have tk := tk_lst (ys := (knT fl true).map V.int ++ [.int (ts.length : Nat)]) G3
      refine qk hk _ (fun b o a1 a2 a3 a4 e => ?_) ⟨⟨dx3, by rw [upd_ne pK]; exact G1⟩, ⟨_, by rw [upd_ne S.n1]; exact G2, ties_tk tk (ties_tk (Same.tk s5) fp)⟩, ?_, ?_, S.n1, S.n2, S.n3⟩
      · rw [upd_ne a3]
        exact s5 _ _ (k4 b o a1 a2 a3 a4 e)
      · rw [upd_same, knT_snoc, if_pos rfl, List.map_append, hlen]
        rfl
      · rw [upd_ne (Ne.symm S.n3), knT_snoc, if_neg (by simp), List.append_nil]
        exact G4
end
/-! ### the stand's laws: wells, sizes, deeds -/
def Well (H : Hp) (d : Addr) (b : Int) : Prop := ∃ x c : Int, H d = some (.lst [.int x, .int c]) ∧ 0 ≤ c ∧ c ≤ b
def KW (d : Addr) (H H' : Hp) : Prop := ∀ b o, b ≠ d → H b = some o → H' b = some o
theorem KW.trans {d : Addr} {H H1 H2 : Hp} (a : KW d H H1) (b : KW d H1 H2) : KW d H H2 := fun x o h1 h => b x o h1 (a x o h1 h)
theorem Same.kw {d : Addr} {H H' : Hp} (s : Same H H') : KW d H H' := fun b o _ h => s b o h
theorem KW.same {d : Addr} {H H1 H2 : Hp} (k : KW d H1 H2) (s : Same H H1) (n : H d = none) : Same H H2 := fun b o e => k b o (ne_of_none e n) (s b o e)
theorem Well.same {H H' : Hp} {d : Addr} {b : Int} (h : Well H d b) (s : Same H H') : Well H' d b := by
  obtain ⟨x, c, h1, h2⟩ := h
  exact ⟨x, c, s _ _ h1, h2⟩
def spDraw : Sp := fun vs H Q _ => ∃ (d : Addr) (b m : Int), vs = [.ref d, .int m] ∧ Well H d b ∧ b ≤ 100000 ∧ 0 < m ∧ m.natAbs < 2 ^ 120 ∧ ∀ v H', 0 ≤ v → v < m → Well H' d (b + 1) → KW d H H' → Q (.int v) H'
def spCell (K : PySem.W.Frag) : Sp := fun vs H Q _ => ∃ (sc : Addr) (ns : List Int) (k : Int), vs = [.ref sc, .int k] ∧ SqL K H sc (ns.map V.int) ∧ 0 ≤ k ∧ ∀ v, Q (.int v) H
def spSize (K : PySem.W.Frag) : Sp := fun vs H Q _ => ∃ (sc : Addr) (ns : List Int), vs = [.ref sc] ∧ SqL K H sc (ns.map V.int) ∧ ∀ r (n : Nat) (de : Int) (b : Bool) H', Same H H' → H' r = some (.tup [.int n, .int de, .bl b]) → 1 ≤ n → n ≤ 40 → 4 ≤ de → de ≤ 203 → Q (.ref r) H'
def spDeed (K : PySem.W.Frag) : Sp := fun vs H Q _ => ∃ (sc L : Addr) (ns : List Int) (k : Int) (n : Nat) (us : List V) (ts : List Tie) (b : Bool), vs = [.ref sc, .int k, .int n, .ref L, .bl b] ∧ SqL K H sc (ns.map V.int) ∧ 0 ≤ k ∧ k ≤ 203 ∧ 1 ≤ n ∧ n ≤ 40 ∧ H L = some (.lst us) ∧ Paired (TieV H) us ts ∧ (∀ t ∈ ts, TieOk n t) ∧ ts.length ≤ 120 ∧
  (∀ H', Same H H' → Q .non H') ∧ ∀ a t H', Same H H' → H' a = some (.tup [.int t.one, .int t.other, .str (kindS t.foe)]) → TieOk n t → ts.length ≤ 119 → Q (.ref a) H'
section
variable {P : Program} {w : World} {K : PySem.W.Frag} {mg : Str → Option Value} {base : Heap}
theorem ok_l_cell_at {f : Addr} {fd : FuncData} (F : Fun K "_law_cell_at" "_law_cell_at" s_l_cell_at f fd) (M : Free mg) : FnOk P w K mg base CX0 1 f fd ["_law_script", "_law_k"] (spCell K) := by
  refine F.ok sc_l_cell_at (fun vs H Q E h => ?_) (fun cdv A outer s H vs Q E hr h => ?_)
  · obtain ⟨sc, ns, k, rfl, _⟩ := h
    rfl
  · obtain ⟨sc, ns, k, rfl, hS, k0, q⟩ := h
    refine ⟨_, (pss_cons (ps_if (pt_cmpR op_lt (pv 1) (pe_callB call_len_seq (by rfl) M.len PySem.boot_len (pa_cons (pv 0) pa_nil)) (nomark _))
        (pss_one (ps_ret (pe_ix ix_list (pv 0) (pv 1) (fun _ _ => rfl))))
        pss_nil)
      (pss_one (ps_ret pe_int))), ?_⟩
    refine ⟨.int k, rfl, .ref sc, rfl, sc, _, rfl, .inl hS, k, _, rfl, rfl, _, rfl, ?_⟩
    refine ite2 (fun h => ?_) (fun _ => q 0)
    have h : k < ((ns.map V.int).length : Int) := of_decide_eq_true h
    rw [List.length_map] at h
    obtain ⟨x, _, _, ex⟩ := atI_ints k0 h
    exact ⟨.ref sc, rfl, .int k, rfl, sc, _, k, .int x, rfl, rfl, hS, ex, q x⟩
theorem ok_l_draw {f : Addr} {fd : FuncData} (F : Fun K "_law_draw" "_law_draw" s_l_draw f fd) (m_abs : mg "abs" = none) : FnOk P w K mg base CX0 1 f fd ["_law_well", "_law_many_here"] spDraw := by
  refine F.ok sc_l_draw (fun vs H Q E h => ?_) (fun cdv A outer s H vs Q E hr h => ?_)
  · obtain ⟨d, b, m, rfl, _⟩ := h
    rfl
  · obtain ⟨d, b, m, rfl, ⟨x, c, hd, c0, c1⟩, b1, hm, hb, q⟩ := h
    refine ⟨_, (pss_cons (ps_asg (pe_op op_add (pe_ix ix_list (pv 0) pe_int (fun _ _ => rfl)) pe_int) (pg_sub (pv 0) pe_int set_list))
      (pss_cons (ps_if (pt_cmpR op_ge (pe_callB call_abs (by rfl) m_abs (by decide +kernel) (pa_cons (pe_ix ix_list (pv 0) pe_int (fun _ _ => rfl)) pa_nil)) (pe_op op_pow pe_int pe_int) (nomark _))
        (pss_cons (ps_set (i := 2) sc_l_draw.nd rfl (.inl rfl) (pe_op op_mod (pe_ix ix_list (pv 0) pe_int (fun _ _ => rfl)) (pv 1)))
        (pss_cons (ps_asg (pe_op op_fdivW (pe_ix ix_list (pv 0) pe_int (fun _ _ => rfl)) (pv 1)) (pg_sub (pv 0) pe_int set_list))
        (pss_one (ps_ret (pv 2)))))
        pss_nil)
      (Evl.pss_cut (ps_set (i := 3) sc_l_draw.nd rfl (.inl rfl) (pe_op op_mod (pe_op op_mul (pe_op op_add (pe_op op_add (pe_op op_mod (pe_ix ix_list (pv 0) pe_int (fun _ _ => rfl)) pe_int) (pe_op op_mul (pe_op op_mul pe_int (pe_ix ix_list (pv 0) pe_int (fun _ _ => rfl))) (pe_ix ix_list (pv 0) pe_int (fun _ _ => rfl)))) pe_int) pe_int) pe_int))
      (Evl.pss_cut (ps_set (i := 3) sc_l_draw.nd rfl (.inl rfl) (pe_op op_mod (pe_op op_add (pe_op op_mul (pv 3) (pv 3)) (pe_op op_mul pe_int (pe_ix ix_list (pv 0) pe_int (fun _ _ => rfl)))) pe_int))
      (pss_one (ps_ret (pe_op op_mod (pe_op op_fdiv (pv 3) pe_int) (pv 1)))))))), ?_⟩
    refine ⟨.ref d, rfl, d, _, 1, .int c, rfl, rfl, SqL.of hd, rfl, c, 1, rfl, rfl, .ref d, rfl, d, _, 1, 1, rfl, rfl, hd, rfl, ?_⟩
    have hd1 : (upd H d (.lst ([V.int x, .int c].set 1 (.int (c + 1))))) d = some (.lst [.int x, .int (c + 1)]) := upd_same
    have k1 : KW d H (upd H d (.lst ([V.int x, .int c].set 1 (.int (c + 1))))) := fun b o hb e => by rw [upd_ne hb]; exact e
    generalize upd H d (.lst ([V.int x, .int c].set 1 (.int (c + 1)))) = H1 at hd1 k1
    refine ⟨.ref d, rfl, d, _, 0, .int x, rfl, rfl, SqL.of hd1, rfl, x, rfl, 10, 18, rfl, rfl, ⟨by decide, by decide, by decide⟩, _, _, rfl, rfl, _, rfl, ?_⟩
    refine ite2 (fun _ => ?_) (fun _ => ?_)
    · refine ⟨.ref d, rfl, d, _, 0, .int x, rfl, rfl, SqL.of hd1, rfl, .int m, rfl, x, m, rfl, rfl, hm, ?_⟩
      refine ⟨.ref d, rfl, d, _, 0, .int x, rfl, rfl, SqL.of hd1, rfl, .int m, rfl, x, m, rfl, rfl, wide_div hm hb (by decide) (by decide), .ref d, rfl, d, _, 0, 0, rfl, rfl, hd1, rfl, ?_⟩
      exact ⟨_, rfl, q _ _ (mod_rng hm).1 (mod_rng hm).2 ⟨x / m, c + 1, upd_same, by omega, by omega⟩ (k1.trans fun b o hb e => by rw [upd_ne hb]; exact e)⟩
    · refine ⟨fun σ' H' => ∃ N : Int, σ' = [some (.ref d), some (.int m), none, some (.int N)] ∧ 0 ≤ N ∧ N < 2147483647 ∧ H' = H1, ?_, ?_⟩
      · exact ⟨.ref d, rfl, d, _, 0, .int x, rfl, rfl, SqL.of hd1, rfl, x, 2147483629, rfl, rfl, show (0 : Int) < 2147483629 by decide, .ref d, rfl, d, _, 1, .int (c + 1), rfl, rfl, SqL.of hd1, rfl, 7919, c + 1, rfl, rfl, .inl ⟨by decide, by decide⟩, .ref d, rfl, d, _, 1, .int (c + 1), rfl, rfl, SqL.of hd1, rfl, _, c + 1, rfl, rfl, .inr ⟨by omega, by omega⟩, _, _, rfl, rfl, _, 31, rfl, rfl, _, 48271, rfl, rfl, .inr ⟨by decide, by decide⟩, _, 2147483647, rfl, rfl, show (0 : Int) < 2147483647 by decide, _, rfl, (mod_rng (by decide)).1, (mod_rng (by decide)).2, rfl⟩
      rintro σ' H' ⟨N, rfl, N0, N1, rfl⟩
      refine ⟨fun σ' H'' => ∃ M : Int, σ' = [some (.ref d), some (.int m), none, some (.int M)] ∧ 0 ≤ M ∧ H'' = H', ?_, ?_⟩
      · exact ⟨.int N, rfl, .int N, rfl, N, N, rfl, rfl, .inl ⟨by omega, by omega⟩, .ref d, rfl, d, _, 1, .int (c + 1), rfl, rfl, SqL.of hd1, rfl, 69621, c + 1, rfl, rfl, .inl ⟨by decide, by decide⟩, _, _, rfl, rfl, _, 2147483587, rfl, rfl, show (0 : Int) < 2147483587 by decide, _, rfl, (mod_rng (by decide)).1, rfl⟩
      rintro σ' H'' ⟨M, rfl, M0, rfl⟩
      refine ⟨.int M, rfl, M, 64, rfl, rfl, ⟨by decide, by decide⟩, .int m, rfl, _, m, rfl, rfl, hm, ?_⟩
      exact q _ _ (mod_rng hm).1 (mod_rng hm).2 ⟨x, c + 1, hd1, by omega, by omega⟩ k1
end
/-! ### groups, and whether a tie is kept -/
theorem rgV_rng' (n : Nat) : rgV 0 n = lf (fun i => i) n := by
  unfold rgV lf rng
  rw [List.map_map]
  show (List.range ((n : Int) - 0).toNat).map _ = _
  rw [show ((n : Int) - 0).toNat = n from by omega]
  refine List.map_congr_left fun i _ => ?_
  show V.int (0 + (i : Nat)) = V.int ((i : Nat) : Int)
  rw [Int.zero_add]
theorem rep_lf' (n : Nat) : (List.replicate n [V.int 0]).flatten = lf (fun _ => 0) n := by
  unfold lf
  induction n with
  | zero => rfl
  | succ n ih =>
    rw [rng_succ, List.map_append, ← ih, List.replicate_succ']
    rw [List.flatten_append]
    rfl
def KV (H : Hp) (v : V) (e : Tie × Bool) : Prop := (e.2 = true ∧ TieV H v e.1) ∨ (e.2 = false ∧ v = .non)
theorem KV.tk {H H' : Hp} (k : Tk H H') {v : V} {e : Tie × Bool} (h : KV H v e) : KV H' v e := by
  rcases h with ⟨h1, h2⟩ | h
  · exact .inl ⟨h1, h2.tk k⟩
  · exact .inr h
theorem kvs_tk {H H' : Hp} (k : Tk H H') {vs : List V} {es : List (Tie × Bool)} (h : Paired (KV H) vs es) : Paired (KV H') vs es := Paired.mono (fun _ _ x => x.tk k) h
theorem kt_take {ts : List Tie} {fl : List Bool} (hl : ts.length = fl.length) {i : Nat} {t : Tie} {b : Bool} (h : (ts.zip fl)[i]? = some (t, b)) : kt (ts.take (i + 1)) (fl.take (i + 1)) = kt (ts.take i) (fl.take i) ++ (if b = true then [t] else []) := by
  rw [List.getElem?_zip_eq_some] at h
  rw [List.take_add_one, List.take_add_one, h.1, h.2]
  exact kt_snoc (by rw [List.length_take, List.length_take, hl])
def spLGroups : Sp := fun vs H Q _ => ∃ (n : Nat) (L : Addr) (us : List V) (ts : List Tie) (fl : List Bool), vs = [.int n, .ref L] ∧ H L = some (.lst us) ∧ Paired (KV H) us (ts.zip fl) ∧ ts.length = fl.length ∧ (∀ t ∈ ts, TieOk n t) ∧ 1 ≤ n ∧ n ≤ 40 ∧
  ∀ r F S g s good H', H F = none → H S = none → Same H H' → H' r = some (.tup [.ref F, .ref S]) → H' F = some (.lst (lf g n)) → H' S = some (.lst (lf s n)) → GS (kt ts fl) n g s good → Q (.ref r) H'
def spLKeeps : Sp := fun vs H Q _ => ∃ (r F S a : Addr) (n : Nat) (g s : Int → Int) (kts : List Tie) (t : Tie), vs = [.ref r, .ref a] ∧ H r = some (.tup [.ref F, .ref S]) ∧ H F = some (.lst (lf g n)) ∧ H S = some (.lst (lf s n)) ∧ GS kts n g s true ∧ TieOk n t ∧ H a = some (.tup [.int t.one, .int t.other, .str (kindS t.foe)]) ∧ ∀ b : Bool, (b = true ↔ Kps kts t) → Q (.bl b) H
theorem sort2 {x y : Int} {ns : List Int} (p : ns.Perm [x, y]) (s : ns.Pairwise (· ≤ ·)) : ns = [min x y, max x y] := by
  have hl := p.length_eq
  match ns, hl with
  | [a, b], _ =>
    have h1 : a ≤ b := (List.pairwise_cons.mp s).1 b (by simp)
    have ha : a = x ∨ a = y := by simpa using p.mem_iff.mp (show a ∈ [a, b] by simp)
    have hb : b = x ∨ b = y := by simpa using p.mem_iff.mp (show b ∈ [a, b] by simp)
    have hx : x = a ∨ x = b := by simpa using p.mem_iff.mpr (show x ∈ [x, y] by simp)
    have hy : y = a ∨ y = b := by simpa using p.mem_iff.mpr (show y ∈ [x, y] by simp)
    have e1 : a = min x y := by omega
    have e2 : b = max x y := by omega
    rw [e1, e2]
def prtG (g : Int → Int) (low high : Int) (j : Nat) : Int → Int := fun x => if x < j ∧ g x = high then low else g x
def prtS (g s : Int → Int) (high turn : Int) (j : Nat) : Int → Int := fun x => if x < j ∧ g x = high then (s x + turn) % 2 else s x
theorem lf_congr {f g : Int → Int} {n : Nat} (h : ∀ x : Int, 0 ≤ x → x < n → f x = g x) : lf f n = lf g n := by
  unfold lf
  refine List.map_congr_left fun x hx => ?_
  have := mem_rng.mp hx
  rw [h x this.1 this.2]
section
variable {P : Program} {w : World} {K : PySem.W.Frag} {mg : Str → Option Value} {base : Heap}
theorem ok_l_groups {f : Addr} {fd : FuncData} (F : Fun K "_law_groups" "_law_groups" s_l_groups f fd) (M : Free mg) (m_sorted : mg "sorted" = none) : FnOk P w K mg base CX0 1 f fd ["_law_many_here", "_law_ties"] spLGroups := by
  refine F.ok sc_l_groups (fun vs H Q E h => ?_) (fun cdv A outer sh H vs Q E hr h => ?_)
  · obtain ⟨n, L, us, ts, fl, rfl, _⟩ := h
    rfl
  · obtain ⟨n, L, us, ts, fl, rfl, hL, hp, hl, ok, n1, n2, q⟩ := h
    refine ⟨_, (pss_cons (ps_set (i := 2) sc_l_groups.nd rfl (.inl rfl) (pe_listRg rfl (by rfl) M.list (prg_1 (by rfl) M.range (pv 0))))
      (pss_cons (ps_set (i := 3) sc_l_groups.nd rfl (.inl rfl) (pe_op op_rep (pe_lst (pa_cons pe_int pa_nil)) (pv 0)))
      (pss_cons (ps_for PassesOwn.never rfl (pi_list (pv 1)) (pg_name (i := 4) sc_l_groups.nd rfl (.inl rfl))
        (pss_one (ps_if (PW.pt (pw_and (pt_cmpR op_notN (pv 4) pe_non (nomark _)) (pw_and1 (pt_cmpR op_ne (pe_ix ix_list (pv 2) (pe_ix ix_tup (pv 4) pe_int (fun _ _ => rfl)) (fun _ _ => rfl)) (pe_ix ix_list (pv 2) (pe_ix ix_tup (pv 4) pe_int (fun _ _ => rfl)) (fun _ _ => rfl)) (nomark _)))))
          (Evl.pss_cut (ps_asg (pe_callB cr_sortedI (by rfl) m_sorted (by decide +kernel) (pa_cons (pe_lst (pa_cons (pe_ix ix_list (pv 2) (pe_ix ix_tup (pv 4) pe_int (fun _ _ => rfl)) (fun _ _ => rfl)) (pa_cons (pe_ix ix_list (pv 2) (pe_ix ix_tup (pv 4) pe_int (fun _ _ => rfl)) (fun _ _ => rfl)) pa_nil))) pa_nil)) (pg_unl rfl (pgs_cons (pg_name (i := 5) sc_l_groups.nd rfl (.inl rfl)) (pgs_cons (pg_name (i := 6) sc_l_groups.nd rfl (.inl rfl)) pgs_nil))))
          (Evl.pss_cut (ps_set (i := 7) sc_l_groups.nd rfl (.inl rfl) (pe_op op_mod (pe_op op_add (pe_op op_add (pe_ix ix_list (pv 3) (pe_ix ix_tup (pv 4) pe_int (fun _ _ => rfl)) (fun _ _ => rfl)) (pe_ix ix_list (pv 3) (pe_ix ix_tup (pv 4) pe_int (fun _ _ => rfl)) (fun _ _ => rfl))) (pe_callTy call_int1 (by rfl) M.int (by decide +kernel) (pa_cons (pe_cmpR op_eq (pe_ix ix_tup (pv 4) pe_int (fun _ _ => rfl)) pe_str (nomark _)) pa_nil))) pe_int))
          (pss_one (ps_for PassesOwn.never rfl (pi_range1 (by rfl) M.range (pa_cons (pv 0) pa_nil)) (pg_name (i := 8) sc_l_groups.nd rfl (.inl rfl))
            (pss_one (ps_if (pt_cmpR op_eq (pe_ix ix_list (pv 2) (pv 8) (fun _ _ => rfl)) (pv 6) (nomark _))
              (pss_cons (ps_asg (pv 5) (pg_sub (pv 2) (pv 8) set_list))
              (pss_one (ps_asg (pe_op op_mod (pe_op op_add (pe_ix ix_list (pv 3) (pv 8) (fun _ _ => rfl)) (pv 7)) pe_int) (pg_sub (pv 3) (pv 8) set_list))))
              pss_nil))))))
          pss_nil)))
      (pss_one (ps_ret (pe_tup (pa_cons (pv 2) (pa_cons (pv 3) pa_nil)))))))), ?_⟩
    refine ⟨.int n, rfl, n, rfl, RgOk.of_le (by decide) (by omega) (by decide) (by omega), fun Fi nF => ?_⟩
    rw [rgV_rng']
    refine ⟨by show 1 ≤ sizeLine; decide, fun O nO => ⟨.int n, rfl, O, n, _, rfl, rfl, upd_same, by omega, by omega, ?_, fun Si nS => ?_⟩⟩
    · rw [Int.toNat_natCast]
      exact Nat.le_of_lt (small1000 (by show 1 * n ≤ _; omega))
    rw [Int.toNat_natCast, rep_lf']
    have e1 := same_new (o := .lst (lf (fun i => i) n)) nF
    have e2 := same_new (o := .lst [.int 0]) nO
    have e3 := same_new (o := .lst (lf (fun _ => 0) n)) nS
    have s0 := (e1.trans e2).trans e3
    have hF0 := e3 _ _ (e2 _ _ (upd_same (H := H) (a := Fi) (o := .lst (lf (fun i => i) n))))
    have hFS : Fi ≠ Si := ne_of_none (e2 _ _ (upd_same (H := H) (a := Fi) (o := .lst (lf (fun i => i) n)))) nS
    have nSH : H Si = none := (e1.trans e2).free nS
    have hS0 := upd_same (H := upd (upd H Fi (.lst (lf (fun i => i) n))) O (.lst [.int 0])) (a := Si) (o := .lst (lf (fun _ => 0) n))
    generalize upd (upd (upd H Fi (.lst (lf (fun i => i) n))) O (.lst [.int 0])) Si (.lst (lf (fun _ => 0) n)) = H0 at s0 hF0 hS0
    refine ⟨.ref L, rfl, L, rfl, ⟨_, SqL.of (s0 _ _ hL)⟩, ?_⟩
    have lz : (ts.zip fl).length = ts.length := by rw [List.length_zip]; omega
    have lu : us.length = ts.length := by rw [Paired.length hp, lz]
    refine for_list (xs := us) (fun i σ' H' => ∃ (y4 y5 y6 y7 y8 : Option V) (g s : Int → Int) (good : Bool), σ' = [some (.int n), some (.ref L), some (.ref Fi), some (.ref Si), y4, y5, y6, y7, y8] ∧ H' Fi = some (.lst (lf g n)) ∧ H' Si = some (.lst (lf s n)) ∧ GS (kt (ts.take i) (fl.take i)) n g s good ∧ Same H H') ⟨none, none, none, none, none, fun i => i, fun _ => 0, true, rfl, hF0, hS0, GS.nil n, s0⟩ (fun i σ' H' _ h => by
      obtain ⟨_, _, _, _, _, _, _, _, _, _, _, _, s⟩ := h
      exact SqL.of (s _ _ hL)) ?_ ?_
    · clear hF0 hS0 s0
      rintro i x σ' H1 ex ⟨y4, y5, y6, y7, y8, g, s, good, rfl, hF, hS, gs, s1⟩
      obtain ⟨⟨t, b⟩, et, hk⟩ := Paired.at hp ex
      have okp : ∀ t ∈ kt (ts.take i) (fl.take i), TieOk n t := fun t ht => ok t (List.mem_of_mem_take (kt_sub ht))
      have ekt := kt_take hl et
      have tmem : t ∈ ts := List.mem_of_getElem? (List.getElem?_zip_eq_some.mp et).1
      refine ⟨x, rfl, rfl, _, rfl, ?_⟩
      rcases hk with ⟨rfl, a, rfl, ha⟩ | ⟨rfl, rfl⟩
      · rw [if_pos rfl] at ekt
        have o := ok t tmem
        have ha1 := s1 _ _ ha
        refine ⟨.ref Fi, rfl, .ref a, rfl, a, _, 0, .int t.one, rfl, rfl, SqT.of ha1, rfl, Fi, _, t.one, _, rfl, rfl, SqL.of hF, lf_at _ o.1 o.2.1, .ref Fi, rfl, .ref a, rfl, a, _, 1, .int t.other, rfl, rfl, SqT.of ha1, rfl, Fi, _, t.other, _, rfl, rfl, SqL.of hF, lf_at _ o.2.2.1 o.2.2.2.1, rfl, _, rfl, ?_⟩
        rw [dec_int']
        have st := gs.step okp o rfl rfl rfl
        by_cases eg : g t.one = g t.other
        · rw [decide_eq_true eg]
          have e1 : gNew g (min (g t.one) (g t.other)) (max (g t.one) (g t.other)) = g := by
            funext x
            unfold gNew
            rw [if_neg (by omega)]
          have e2 : sNew g s (min (g t.one) (g t.other)) (max (g t.one) (g t.other)) ((s t.one + s t.other + (if t.foe = true then 1 else 0)) % 2) = s := by
            funext x
            unfold sNew
            rw [if_neg (by omega)]
          rw [e1, e2, ← ekt] at st
          exact ⟨_, _, _, _, _, g, s, _, rfl, hF, hS, st, s1⟩
        · rw [decide_eq_false eg]
          generalize hlo : min (g t.one) (g t.other) = lo at st
          generalize hhi : max (g t.one) (g t.other) = hi at st
          generalize htu : (s t.one + s t.other + (if t.foe = true then 1 else 0)) % 2 = tu at st
          refine ⟨fun σ' H' => σ' = [some (.int n), some (.ref L), some (.ref Fi), some (.ref Si), some (.ref a), some (.int lo), some (.int hi), y7, y8] ∧ Same H1 H', ?_, ?_⟩
          · refine ⟨.ref Fi, rfl, .ref a, rfl, a, _, 0, .int t.one, rfl, rfl, SqT.of ha1, rfl, Fi, _, t.one, _, rfl, rfl, SqL.of hF, lf_at _ o.1 o.2.1, .ref Fi, rfl, .ref a, rfl, a, _, 1, .int t.other, rfl, rfl, SqT.of ha1, rfl, Fi, _, t.other, _, rfl, rfl, SqL.of hF, lf_at _ o.2.2.1 o.2.2.2.1, by show 2 ≤ sizeLine; decide, fun p1 m1 => ⟨p1, [g t.one, g t.other], rfl, SqL.of upd_same, fun ns' p2 pm sr m2 => ?_⟩⟩
            have := sort2 pm sr
            subst this
            rw [hlo, hhi]
            exact ⟨p2, _, rfl, SqL.of upd_same, rfl, _, _, rfl, _, _, rfl, rfl, rfl, (same_new m1).trans (same_new m2)⟩
          rintro σ' H2 ⟨rfl, s2⟩
          have hF2 := s2 _ _ hF
          have hS2 := s2 _ _ hS
          have ha2 := s2 _ _ ha1
          refine ⟨fun σ' H' => σ' = [some (.int n), some (.ref L), some (.ref Fi), some (.ref Si), some (.ref a), some (.int lo), some (.int hi), some (.int tu), y8] ∧ H' = H2, ?_, ?_⟩
          · refine ⟨.ref Si, rfl, .ref a, rfl, a, _, 0, .int t.one, rfl, rfl, SqT.of ha2, rfl, Si, _, t.one, _, rfl, rfl, SqL.of hS2, lf_at _ o.1 o.2.1, .ref Si, rfl, .ref a, rfl, a, _, 1, .int t.other, rfl, rfl, SqT.of ha2, rfl, Si, _, t.other, _, rfl, rfl, SqL.of hS2, lf_at _ o.2.2.1 o.2.2.2.1, _, _, rfl, rfl, .ref a, rfl, a, _, 2, .str (kindS t.foe), rfl, rfl, SqT.of ha2, rfl, rfl, .inr ⟨_, rfl, _, _, rfl, rfl, _, 2, rfl, rfl, (show (0 : Int) < 2 by decide), ?_, rfl⟩⟩
            rw [← htu]
            have ek : decide (V.str (kindS t.foe) = V.str "foe") = t.foe := by cases t.foe <;> decide +kernel
            rw [ek]
            rfl
          rintro σ' H3 ⟨rfl, rfl⟩
          have hlh : lo < hi := by omega
          refine ⟨.int n, rfl, n, rfl, by omega, by omega, ?_⟩
          rw [Int.toNat_natCast]
          refine for_range (lo := 0) (n := n) (fun j σ' H' => ∃ y8 : Option V, σ' = [some (.int n), some (.ref L), some (.ref Fi), some (.ref Si), some (.ref a), some (.int lo), some (.int hi), some (.int tu), y8] ∧ H' Fi = some (.lst (lf (prtG g lo hi j) n)) ∧ H' Si = some (.lst (lf (prtS g s hi tu j) n)) ∧ Same H H') ⟨y8, rfl, ?_, ?_, s1.trans s2⟩ ?_ ?_
          · rw [hF2]
            congr 2
            exact lf_congr fun x x0 _ => by unfold prtG; rw [if_neg (by omega)]
          · rw [hS2]
            congr 2
            exact lf_congr fun x x0 _ => by unfold prtS; rw [if_neg (by omega)]
          · rintro j σ' H4 hj ⟨y8, rfl, hF4, hS4, s4⟩
            rw [show (0 : Int) + (j : Nat) = (j : Nat) from by omega]
            refine ⟨.ref Fi, rfl, .int (j : Nat), rfl, Fi, _, (j : Nat), _, rfl, rfl, SqL.of hF4, lf_at _ (by omega) (by omega), .int hi, rfl, rfl, _, rfl, ?_⟩
            rw [dec_int']
            have ej : prtG g lo hi j (j : Int) = g j := by unfold prtG; rw [if_neg (by omega)]
            rw [ej]
            by_cases eh : g (j : Int) = hi
            · rw [decide_eq_true eh]
              refine ⟨.int lo, rfl, .ref Fi, rfl, .int (j : Nat), rfl, Fi, _, (j : Nat), j, rfl, rfl, hF4, by rw [lf_len]; exact ixN_of (i := (j : Nat)) (by omega) (by omega), ?_⟩
              have f1 := lf_set (prtG g lo hi j) (n := n) (i := (j : Int)) (y := lo) (by omega) (by omega)
              rw [Int.toNat_natCast] at f1
              rw [f1]
              have hS5 : ∀ o, (upd H4 Fi o) Si = some (.lst (lf (prtS g s hi tu j) n)) := fun o => by rw [upd_ne (Ne.symm hFS)]; exact hS4
              refine ⟨.ref Si, rfl, .int (j : Nat), rfl, Si, _, (j : Nat), _, rfl, rfl, SqL.of (hS5 _), lf_at _ (by omega) (by omega), .int tu, rfl, _, _, rfl, rfl, _, 2, rfl, rfl, (show (0 : Int) < 2 by decide), .ref Si, rfl, .int (j : Nat), rfl, Si, _, (j : Nat), j, rfl, rfl, hS5 _, by rw [lf_len]; exact ixN_of (i := (j : Nat)) (by omega) (by omega), ?_⟩
              have f2 := lf_set (prtS g s hi tu j) (n := n) (i := (j : Int)) (y := (prtS g s hi tu j (j : Int) + tu) % 2) (by omega) (by omega)
              rw [Int.toNat_natCast] at f2
              rw [f2]
              refine ⟨_, rfl, ?_, ?_, Same.mut (Same.mut s4 nF) nSH⟩
              · rw [upd_ne hFS, upd_same]
                congr 2
                refine lf_congr fun x x0 x1 => ?_
                unfold prtG
                by_cases e : x = (j : Int)
                · subst e
                  rw [if_pos rfl, if_pos ⟨by omega, eh⟩]
                · rw [if_neg e]
                  by_cases e2 : x < (j : Int) ∧ g x = hi
                  · rw [if_pos e2, if_pos ⟨by omega, e2.2⟩]
                  · rw [if_neg e2, if_neg (fun z => e2 ⟨by omega, z.2⟩)]
              · rw [upd_same]
                congr 2
                refine lf_congr fun x x0 x1 => ?_
                unfold prtS
                by_cases e : x = (j : Int)
                · subst e
                  rw [if_pos rfl, if_neg (by omega), if_pos ⟨by omega, eh⟩]
                · rw [if_neg e]
                  by_cases e2 : x < (j : Int) ∧ g x = hi
                  · rw [if_pos e2, if_pos ⟨by omega, e2.2⟩]
                  · rw [if_neg e2, if_neg (fun z => e2 ⟨by omega, z.2⟩)]
            · rw [decide_eq_false eh]
              refine ⟨_, rfl, ?_, ?_, s4⟩
              · rw [hF4]
                congr 2
                refine lf_congr fun x x0 x1 => ?_
                unfold prtG
                by_cases e2 : x < (j : Int) ∧ g x = hi
                · rw [if_pos e2, if_pos ⟨by omega, e2.2⟩]
                · rw [if_neg e2, if_neg (fun z => by
                    by_cases e : x = (j : Int)
                    · rw [e] at z
                      exact eh z.2
                    · exact e2 ⟨by omega, z.2⟩)]
              · rw [hS4]
                congr 2
                refine lf_congr fun x x0 x1 => ?_
                unfold prtS
                by_cases e2 : x < (j : Int) ∧ g x = hi
                · rw [if_pos e2, if_pos ⟨by omega, e2.2⟩]
                · rw [if_neg e2, if_neg (fun z => by
                    by_cases e : x = (j : Int)
                    · rw [e] at z
                      exact eh z.2
                    · exact e2 ⟨by omega, z.2⟩)]
          · rintro σ' H4 ⟨y8, rfl, hF4, hS4, s4⟩
            rw [← ekt] at st
            refine ⟨_, _, _, _, _, gNew g lo hi, sNew g s lo hi tu, _, rfl, ?_, ?_, st, s4⟩
            · rw [hF4]
              congr 2
              refine lf_congr fun x x0 x1 => ?_
              unfold prtG gNew
              by_cases e2 : g x = hi
              · rw [if_pos ⟨by omega, e2⟩, if_pos ⟨hlh, e2⟩]
              · rw [if_neg (fun z => e2 z.2), if_neg (fun z => e2 z.2)]
            · rw [hS4]
              congr 2
              refine lf_congr fun x x0 x1 => ?_
              unfold prtS sNew
              by_cases e2 : g x = hi
              · rw [if_pos ⟨by omega, e2⟩, if_pos ⟨hlh, e2⟩]
              · rw [if_neg (fun z => e2 z.2), if_neg (fun z => e2 z.2)]
      · rw [if_neg (by simp), List.append_nil] at ekt
        rw [← ekt] at gs
        exact ⟨_, _, _, _, _, g, s, good, rfl, hF, hS, gs, s1⟩
    · rintro σ' H1 ⟨y4, y5, y6, y7, y8, g, s, good, rfl, hF, hS, gs, s1⟩
      rw [lu, List.take_length, hl, List.take_length] at gs
      refine ⟨.ref Fi, rfl, .ref Si, rfl, by show 2 ≤ sizeLine; decide, fun r nr => ?_⟩
      have e := same_new (o := .tup [.ref Fi, .ref Si]) nr
      exact q r Fi Si g s good _ nF nSH (s1.trans e) upd_same (e _ _ hF) (e _ _ hS) gs
end
/-! ### webs as data -/
def tieD (t : Tie) : PyData := .tuple [.int t.one, .int t.other, .str (kindS t.foe)]
def webD (n : Int) (ts : List Tie) : PyData := .tuple [.int n, .tuple (ts.map tieD)]
theorem kind_ok (b : Bool) : (PyData.str (kindS b)).canLay0 = true ∧ (kindS b).cps.size ≤ 100 := by cases b <;> decide +kernel
theorem dp_ties {K : PySem.W.Frag} {H : Hp} : ∀ {vs : List V} {ts : List Tie}, Paired (TieV H) vs ts → DpAll K H vs (ts.map tieD)
  | _, _, .nil => .nil
  | _, _, .cons r t => by
    obtain ⟨a, rfl, e⟩ := r
    exact .cons (.tup (SqT.of e) (.cons (.int _) (.cons (.int _) (.cons (.str _) .nil)))) (dp_ties t)
theorem WebAt.dp {K : PySem.W.Frag} {H : Hp} {v : V} {n : Int} {ts : List Tie} (h : WebAt H v n ts) : Dp K H v (webD n ts) := by
  obtain ⟨a, b, vs, rfl, h1, h2, h3⟩ := h
  exact .tup (SqT.of h1) (.cons (.int _) (.cons (.tup (SqT.of h2) (dp_ties h3)) .nil))
theorem lay_tie (t : Tie) : (tieD t).canLay0 = true := by
  unfold tieD
  have h := (kind_ok t.foe).1
  simp only [PyData.canLay0, PyData.canLayAll0, Bool.true_and, Bool.and_true] at h ⊢
  exact h
theorem lay_ties : ∀ ts : List Tie, PyData.canLayAll0 (ts.map tieD) = true
  | [] => by simp [PyData.canLayAll0]
  | t :: ts => by rw [List.map_cons, PyData.canLayAll0, lay_tie t, lay_ties ts]; rfl
theorem lay_web (n : Int) (ts : List Tie) : (webD n ts).canLay0 = true := by
  unfold webD
  rw [PyData.canLay0, PyData.canLayAll0, PyData.canLayAll0, PyData.canLay0, PyData.canLay0, lay_ties, PyData.canLayAll0]
  rfl
theorem deep_ties : ∀ ts : List Tie, PyData.depthAll (ts.map tieD) ≤ 1
  | [] => by simp [PyData.depthAll]
  | t :: ts => by
    have h := deep_ties ts
    have g : (tieD t).depth = 1 := by simp [tieD, PyData.depth, PyData.depthAll]
    rw [List.map_cons, PyData.depthAll, g]
    omega
theorem shaped_web (n : Int) (ts : List Tie) : SeqAt.shaped (webD n ts) = true := by
  have h := deep_ties ts
  have d : (webD n ts).depth ≤ 3 := by
    simp only [webD, PyData.depth, PyData.depthAll]
    omega
  unfold SeqAt.shaped
  rw [lay_web]
  simp
  omega
/-! ### rows of numbers, in lists -/
def listD (xs : List Int) : PyData := .list (xs.map PyData.int)
theorem shaped_listD (xs : List Int) : SeqAt.shaped (listD xs) = true := by
  unfold SeqAt.shaped listD
  rw [PyData.canLay0, PyData.depth, lay_ints, deep_ints]
  rfl
theorem eqvAll_ints : ∀ xs ys : List Int, PyData.eqvAll (xs.map PyData.int) (ys.map PyData.int) = decide (xs = ys)
  | [], [] => by simp [PyData.eqvAll]
  | [], y :: ys => by simp [PyData.eqvAll]
  | x :: xs, [] => by simp [PyData.eqvAll]
  | x :: xs, y :: ys => by
    rw [List.map_cons, List.map_cons, PyData.eqvAll, eqvAll_ints xs ys, PyData.eqv]
    by_cases h1 : x = y <;> by_cases h2 : xs = ys <;> simp [h1, h2]
theorem eqv_listD (xs ys : List Int) : PyData.eqv (listD xs) (listD ys) = decide (xs = ys) := by
  unfold listD
  rw [PyData.eqv]
  exact eqvAll_ints xs ys
theorem filter_rng_succ (p : Int → Bool) (i : Nat) : ((rng (i + 1)).filter p).map V.int = ((rng i).filter p).map V.int ++ (if p i = true then [V.int i] else []) := by
  rw [rng_succ, List.filter_append, List.map_append, List.filter_cons]
  by_cases h : p i = true
  · rw [if_pos h, if_pos h]
    rfl
  · rw [if_neg h, if_neg h]
    rfl
theorem filter_rng_len (p : Int → Bool) (i : Nat) : ((rng i).filter p).length ≤ i := by
  have := List.length_filter_le p (rng i)
  rw [rng_length] at this
  exact this
/-! ### the stand under a row of deeds -/
theorem GS.calm_step {ts : List Tie} {n : Nat} {g s : Int → Int} (h : GS ts n g s true) (okts : ∀ t ∈ ts, TieOk n t) {t : Tie} (ok : TieOk n t) (k : Kps ts t) : ¬ Odd (ts ++ [t]) n := by
  have st := h.step okts ok rfl rfl rfl
  have kk := (h.keeps ok).mp k
  have e : (if min (g t.one) (g t.other) = max (g t.one) (g t.other) then true && decide ((s t.one + s t.other + (if t.foe = true then 1 else 0)) % 2 = 0) else true) = true := by
    by_cases c : g t.one = g t.other
    · rw [if_pos (by omega), Bool.true_and, decide_eq_true_iff]
      rcases kk with kk | kk
      · exact absurd c kk
      · rw [← kk]
        unfold bit
        rcases h.bn t.one ok.1 ok.2.1 with a1 | a1 <;> rcases h.bn t.other ok.2.2.1 ok.2.2.2.1 with b1 | b1 <;> rw [a1, b1] <;> decide
    · rw [if_neg (by omega)]
  rw [e] at st
  exact st.calm
theorem SI.nil {n : Nat} (h1 : 1 ≤ n) (h2 : n ≤ 40) : SI n [] [] := ⟨rfl, Nat.zero_le _, fun t ht => by simp at ht, (GS.nil n).calm, h1, h2⟩
theorem SI.okk {n : Nat} {ts : List Tie} {fl : List Bool} (h : SI n ts fl) : ∀ t ∈ kt ts fl, TieOk n t := fun t ht => h.ok t (kt_sub ht)
theorem SI.gs {n : Nat} {ts : List Tie} {fl : List Bool} (h : SI n ts fl) {g s : Int → Int} {good : Bool} (gs : GS (kt ts fl) n g s good) : GS (kt ts fl) n g s true := by
  cases good
  · exact absurd (gs.no rfl) h.calm
  · exact gs
theorem SI.more {n : Nat} {ts : List Tie} {fl : List Bool} (h : SI n ts fl) {g s : Int → Int} (gs : GS (kt ts fl) n g s true) {t : Tie} (ok : TieOk n t) (few : ts.length ≤ 119) {f : Bool} (hf : f = true → Kps (kt ts fl) t) : SI n (ts ++ [t]) (fl ++ [f]) := by
  have hl := h.len
  refine ⟨by simp [hl], by simp; omega, fun x hx => ?_, ?_, h.n1, h.n40⟩
  · rcases List.mem_append.mp hx with z | z
    · exact h.ok x z
    · rw [List.mem_singleton.mp z]
      exact ok
  · rw [kt_snoc h.len]
    cases f
    · rw [if_neg (by simp), List.append_nil]
      exact h.calm
    · rw [if_pos rfl]
      exact gs.calm_step h.okk ok (hf rfl)
theorem SI.less {n : Nat} {ts : List Tie} {fl : List Bool} {t : Tie} {f : Bool} (h : SI n (ts ++ [t]) (fl ++ [f])) : SI n ts fl := by
  have hl : ts.length = fl.length := by
    have := h.len
    simp at this
    exact this
  have few := h.few
  rw [List.length_append] at few
  refine ⟨hl, by omega, fun x hx => h.ok x (List.mem_append_left _ hx), fun o => h.calm (o.mono fun x hx => ?_), h.n1, h.n40⟩
  rw [kt_snoc hl]
  exact List.mem_append_left _ hx
theorem StA.tk {C : Addr} {H H' : Hp} {p T Kk Lo : Addr} {n : Nat} {ts : List Tie} {fl : List Bool} (S : StA C H p T Kk Lo n ts fl) (k : KS p T Kk Lo H H') : Tk H H' := fun b xs e => by
  obtain ⟨dx, h1⟩ := S.ob
  obtain ⟨us, h2, _⟩ := S.hT
  exact k b _ (ne_of e h1 (by intro z; cases z)) (ne_of e h2 (by intro z; cases z)) (ne_of e S.hK (by intro z; cases z)) (ne_of e S.hL (by intro z; cases z)) e
theorem StA.put {C : Addr} {H : Hp} {p T Kk Lo a : Addr} {n : Nat} {ts : List Tie} {fl : List Bool} {xs ys : List V} (S : StA C H p T Kk Lo n ts fl) (h : H a = some (.lst xs)) (n1 : a ≠ T) (n2 : a ≠ Kk) (n3 : a ≠ Lo) : StA C (upd H a (.lst ys)) p T Kk Lo n ts fl := by
  obtain ⟨⟨dx, h1⟩, ⟨us, h2, h3⟩, h4, h5, e1, e2, e3⟩ := S
  refine ⟨⟨dx, ?_⟩, ⟨us, ?_, ties_tk (tk_lst h) h3⟩, ?_, ?_, e1, e2, e3⟩
  · rw [upd_ne (ne_of h1 h (by intro z; cases z))]
    exact h1
  · rw [upd_ne (Ne.symm n1)]
    exact h2
  · rw [upd_ne (Ne.symm n2)]
    exact h4
  · rw [upd_ne (Ne.symm n3)]
    exact h5
theorem zip_snoc {α β : Type} {a : α} {b : β} : ∀ {as : List α} {bs : List β}, as.length = bs.length → (as ++ [a]).zip (bs ++ [b]) = as.zip bs ++ [(a, b)]
  | [], [], _ => rfl
  | x :: as, y :: bs, h => by
    have ih := zip_snoc (a := a) (b := b) (as := as) (bs := bs) (by simpa using h)
    show (x, y) :: (as ++ [a]).zip (bs ++ [b]) = _
    rw [ih]
    rfl
theorem unsnoc {α : Type} : ∀ {l : List α}, l ≠ [] → ∃ l' a, l = l' ++ [a] := fun {l} h => ⟨l.dropLast, l.getLast h, (List.dropLast_concat_getLast h).symm⟩
/-- the law's own lists beside the stand: L its ties, M what it kept -/
structure Row (C : Addr) (H : Hp) (p T Kk Lo L M : Addr) (n : Nat) (us ks : List V) (ts : List Tie) (fl : List Bool) : Prop where
  S : StA C H p T Kk Lo n ts fl
  si : SI n ts fl
  hL : H L = some (.lst us)
  pL : Paired (TieV H) us ts
  hM : H M = some (.lst ks)
  pM : Paired (KV H) ks (ts.zip fl)
/-- which of the law's lists are which -/
structure Ap (T Kk Lo L M : Addr) : Prop where
  l1 : L ≠ T
  l2 : L ≠ Kk
  l3 : L ≠ Lo
  m1 : M ≠ T
  m2 : M ≠ Kk
  m3 : M ≠ Lo
  lm : L ≠ M
theorem Row.same {C : Addr} {H H' : Hp} {p T Kk Lo L M : Addr} {n : Nat} {us ks : List V} {ts : List Tie} {fl : List Bool} (h : Row C H p T Kk Lo L M n us ks ts fl) (s : Same H H') : Row C H' p T Kk Lo L M n us ks ts fl :=
  ⟨h.S.same s, h.si, s _ _ h.hL, ties_tk (Same.tk s) h.pL, s _ _ h.hM, kvs_tk (Same.tk s) h.pM⟩
theorem Row.put {C : Addr} {H : Hp} {p T Kk Lo L M a : Addr} {n : Nat} {us ks xs ys : List V} {ts : List Tie} {fl : List Bool} (h : Row C H p T Kk Lo L M n us ks ts fl) (e : H a = some (.lst xs)) (n1 : a ≠ T) (n2 : a ≠ Kk) (n3 : a ≠ Lo) (n4 : a ≠ L) (n5 : a ≠ M) : Row C (upd H a (.lst ys)) p T Kk Lo L M n us ks ts fl :=
  ⟨h.S.put e n1 n2 n3, h.si, by rw [upd_ne (Ne.symm n4)]; exact h.hL, ties_tk (tk_lst e) h.pL, by rw [upd_ne (Ne.symm n5)]; exact h.hM, kvs_tk (tk_lst e) h.pM⟩
theorem Row.lenM {C : Addr} {H : Hp} {p T Kk Lo L M : Addr} {n : Nat} {us ks : List V} {ts : List Tie} {fl : List Bool} (h : Row C H p T Kk Lo L M n us ks ts fl) : ks.length = ts.length := by
  have := Paired.length h.pM
  have hl := h.si.len
  rw [List.length_zip] at this
  omega
/-- a tie more, kept or lost -/
theorem Row.more {C : Addr} {H H1 H2 : Hp} {p T Kk Lo L M c : Addr} {n : Nat} {us ks : List V} {ts : List Tie} {fl : List Bool} {t : Tie} {f : Bool} {g s : Int → Int} (h : Row C H p T Kk Lo L M n us ks ts fl) (ap : Ap T Kk Lo L M) (hc : H c = some (.tup [.int t.one, .int t.other, .str (kindS t.foe)])) (ok : TieOk n t) (few : ts.length ≤ 119) (k : KS p T Kk Lo H H1) (S1 : StA C H1 p T Kk Lo n (ts ++ [t]) (fl ++ [f])) (s2 : Same H1 H2) (gs : GS (kt ts fl) n g s true) (hf : f = true → Kps (kt ts fl) t) :
    H2 M = some (.lst ks) ∧ (upd H2 M (.lst (ks ++ [if f then .ref c else .non]))) L = some (.lst us) ∧ Row C (upd (upd H2 M (.lst (ks ++ [if f then .ref c else .non]))) L (.lst (us ++ [.ref c]))) p T Kk Lo L M n (us ++ [.ref c]) (ks ++ [if f then .ref c else .non]) (ts ++ [t]) (fl ++ [f]) := by
  have tk1 := (h.S.tk k).trans (Same.tk s2)
  obtain ⟨dx, ho⟩ := h.S.ob
  have pL : L ≠ p := ne_of h.hL ho (by intro z; cases z)
  have pM : M ≠ p := ne_of h.hM ho (by intro z; cases z)
  have hM2 : H2 M = some (.lst ks) := s2 _ _ (k _ _ pM ap.m1 ap.m2 ap.m3 h.hM)
  have hL2 : H2 L = some (.lst us) := s2 _ _ (k _ _ pL ap.l1 ap.l2 ap.l3 h.hL)
  have hL3 : (upd H2 M (.lst (ks ++ [if f then .ref c else .non]))) L = some (.lst us) := by rw [upd_ne ap.lm]; exact hL2
  have tk2 : Tk H2 (upd (upd H2 M (.lst (ks ++ [if f then .ref c else .non]))) L (.lst (us ++ [.ref c]))) := (tk_lst hM2).trans (tk_lst hL3)
  have tk := tk1.trans tk2
  have hv : TieV (upd (upd H2 M (.lst (ks ++ [if f then .ref c else .non]))) L (.lst (us ++ [.ref c]))) (.ref c) t := ⟨c, rfl, tk _ _ hc⟩
  refine ⟨hM2, hL3, ((S1.same s2).put hM2 ap.m1 ap.m2 ap.m3).put hL3 ap.l1 ap.l2 ap.l3, h.si.more gs ok few hf, upd_same, Paired.snoc (ties_tk tk h.pL) hv, ?_, ?_⟩
  · rw [upd_ne (Ne.symm ap.lm)]
    exact upd_same
  · rw [zip_snoc h.si.len]
    refine Paired.snoc (kvs_tk tk h.pM) ?_
    cases f
    · exact .inr ⟨rfl, rfl⟩
    · exact .inl ⟨rfl, hv⟩
/-- a tie less -/
theorem Row.less {C : Addr} {H H1 : Hp} {p T Kk Lo L M : Addr} {n : Nat} {us ks : List V} {u k : V} {ts : List Tie} {fl : List Bool} {t : Tie} {f : Bool} (h : Row C H p T Kk Lo L M n (us ++ [u]) (ks ++ [k]) (ts ++ [t]) (fl ++ [f])) (ap : Ap T Kk Lo L M) (hp : Paired (TieV H) us ts) (hk : Paired (KV H) ks (ts.zip fl)) (k1 : KS p T Kk Lo H H1) (S1 : StA C H1 p T Kk Lo n ts fl) :
    H1 L = some (.lst (us ++ [u])) ∧ (upd H1 L (.lst us)) M = some (.lst (ks ++ [k])) ∧ Row C (upd (upd H1 L (.lst us)) M (.lst ks)) p T Kk Lo L M n us ks ts fl := by
  have tk1 := h.S.tk k1
  obtain ⟨dx, ho⟩ := h.S.ob
  have pL : L ≠ p := ne_of h.hL ho (by intro z; cases z)
  have pM : M ≠ p := ne_of h.hM ho (by intro z; cases z)
  have hM2 : H1 M = some (.lst (ks ++ [k])) := k1 _ _ pM ap.m1 ap.m2 ap.m3 h.hM
  have hL2 : H1 L = some (.lst (us ++ [u])) := k1 _ _ pL ap.l1 ap.l2 ap.l3 h.hL
  have hM3 : (upd H1 L (.lst us)) M = some (.lst (ks ++ [k])) := by rw [upd_ne (Ne.symm ap.lm)]; exact hM2
  have tk := tk1.trans ((tk_lst (ys := us) hL2).trans (tk_lst (ys := ks) hM3))
  refine ⟨hL2, hM3, (S1.put hL2 ap.l1 ap.l2 ap.l3).put hM3 ap.m1 ap.m2 ap.m3, h.si.less, ?_, ties_tk tk hp, upd_same, kvs_tk tk hk⟩
  rw [upd_ne ap.lm]
  exact upd_same
/-- what is there stays, where the stand and the law's lists are new -/
theorem KS.keep {p T Kk Lo : Addr} {H0 H H' : Hp} (k : KS p T Kk Lo H H') (s : Same H0 H) (n0 : H0 p = none) (n1 : H0 T = none) (n2 : H0 Kk = none) (n3 : H0 Lo = none) : Same H0 H' := fun b o e => k b o (ne_of_none e n0) (ne_of_none e n1) (ne_of_none e n2) (ne_of_none e n3) (s b o e)
def TwoW (n : Nat) (H : Hp) (v : V) : Prop := ∃ r x y ts, v = .ref r ∧ H r = some (.tup [x, y]) ∧ WebAt H x n ts ∧ WebAt H y n ts
theorem TwoW.tk {n : Nat} {H H' : Hp} (k : Tk H H') {v : V} (h : TwoW n H v) : TwoW n H' v := by
  obtain ⟨r, x, y, ts, rfl, h1, h2, h3⟩ := h
  exact ⟨r, x, y, ts, rfl, k _ _ h1, h2.tk k, h3.tk k⟩
/-! ### sorted(t) of a tuple of ints -/
section
open PySem PySem.Spec PyProof.Rows SrtO
variable {prog : Program} {w : World} {A : PySem.Around} {E : Value → Shared → Prop} {s : Shared}
theorem collect_tupT {l : Addr} {vs : List Value} {Q : List Value → Shared → Prop} (hl : s.heap.IsTuple l vs.toArray)
    (h : Q vs { s with heap := (s.heap.push (seqObj "list" #[] 0)).update s.heap.objs.size (Obj.mapSeq (· ++ vs.toArray)) }) (hsz : vs.length ≤ sizeLine) :
    wpAny (model prog w) A (collect (.ref l)) Q E s := by
  obtain ⟨o, ho, hc, n, hd⟩ := id hl
  unfold collect
  refine wpAny_bind (wpAny_runValue (codeAny_builtin entry_proto_collect' ?_))
  show wpAny _ _ (do again (.builtin "list.__iadd__" ⟨[← newList [], .ref l], []⟩)) _ _ s
  refine wpAny_bind (wpAny_newList (wpAny_pure ⟨Code.quiet_builtin _ (by decide +kernel), codeAny_builtin entry_list_iadd' ?_⟩))
  show wpAny _ _ (Builtin.List.listExtendWith (.ref s.heap.objs.size) (.ref l) (.ref s.heap.objs.size)) _ _ { s with heap := s.heap.push (seqObj "list" #[] 0) }
  unfold Builtin.List.listExtendWith
  have ho' : (s.heap.push (seqObj "list" #[] 0)).get? l = some o := Heap.get?_push_of_some _ ho
  refine wpAny_bind (wpAny_typeOf (T := "tuple") ⟨o, ho', hc⟩ ?_)
  have ht : (Value.type "tuple" == Value.type "tuple") = true := by rfl
  rw [if_pos (by rw [ht]; simp)]
  refine wpAny_bind (listItems_at ho' hd ?_)
  refine wpAny_bind (listItems_at (xs := #[]) (n := 0) (Heap.get?_push_size _ rfl) rfl ?_)
  rw [if_neg (by simp)]
  refine wpAny_bind (listUpdate_at (xs := #[]) (n := 0) (Heap.get?_push_size _ rfl) rfl ?_ (Nat.zero_le _) (by show (#[] ++ vs.toArray).size ≤ sizeLine + 1; simp only [Array.size_append, List.size_toArray, List.length_nil]; omega))
  refine wpAny_pure ?_
  show wpAny (model prog w) A (do
      let o ← load s.heap.objs.size
      match o.data with
      | .seq xs _ => pure xs.toList
      | _ => unsupported "internal:collect") Q E { s with heap := (s.heap.push (seqObj "list" #[] 0)).update s.heap.objs.size (Obj.mapSeq (· ++ vs.toArray)) }
  refine wpAny_bind (wpAny_load (get?_update_seq (Heap.get?_push_size _ rfl) _) ?_)
  show wpAny _ _ (pure ((#[] : Array Value) ++ vs.toArray).toList) Q E _
  rw [show ((#[] : Array Value) ++ vs.toArray).toList = vs by simp]
  exact wpAny_pure h
theorem sorted_ordT {l : Addr} {vs : List Value} {ltv : Value → Value → Bool} {Q : Value → Shared → Prop} (O : Swo ltv) (hl : s.heap.IsTuple l vs.toArray) (hz : vs.length ≤ sizeLine)
    (hS : 2 ≤ vs.length → ∀ (h₁ : Heap) (a : Addr), h₁.get? a = some (seqObj "list" vs.toArray 0) → (∀ b o, s.heap.get? b = some o → b ≠ a ∧ h₁.get? b = some o) → SortableO prog w A.in1.in1 { s with heap := h₁ } a vs ltv)
    (h : ∀ out : List Value, Srtd ltv out → Stb ltv out vs → Q (.ref (s.heap.objs.size + 1)) { s with heap := sortedAll s.heap vs out.toArray }) :
    wpAny (model prog w) A (call (.builtin "sorted") [.ref l]) Q E s := by
  refine Calls.call_function_entry kind_sorted plain_sorted entry_sorted (args_sorted1 _) ?_
  unfold Builtin.«sorted»
  refine wpAny_bind (m := checkCount "sorted" 1 1 _) (wpAny_pure ?_)
  refine wpAny_bind (collect_tupT hl ?_ hz)
  refine wpAny_bind (wpAny_newList ?_ hz)
  have hsz : ((s.heap.push (seqObj "list" #[] 0)).update s.heap.objs.size (Obj.mapSeq (· ++ vs.toArray))).objs.size = s.heap.objs.size + 1 := by
    rw [Heap.size_update, size_push']
  have hoL : (((s.heap.push (seqObj "list" #[] 0)).update s.heap.objs.size (Obj.mapSeq (· ++ vs.toArray))).push (seqObj "list" vs.toArray 0)).get? (s.heap.objs.size + 1) = some (seqObj "list" vs.toArray 0) := by
    rw [← hsz]; exact Heap.get?_push_size _ rfl
  have keep : ∀ b o, s.heap.get? b = some o → b ≠ s.heap.objs.size + 1 ∧ (((s.heap.push (seqObj "list" #[] 0)).update s.heap.objs.size (Obj.mapSeq (· ++ vs.toArray))).push (seqObj "list" vs.toArray 0)).get? b = some o := fun b o q => by
    have hlt : b < s.heap.objs.size := Heap.lt_size q
    refine ⟨Nat.ne_of_lt (Nat.lt_succ_of_lt hlt), Heap.get?_push_of_some _ ?_⟩
    rw [Heap.get?_update_ne _ _ _ _ (Nat.ne_of_lt hlt)]
    exact Heap.get?_push_of_some _ q
  show wpAny _ _ _ _ _ { s with heap := ((s.heap.push (seqObj "list" #[] 0)).update s.heap.objs.size (Obj.mapSeq (· ++ vs.toArray))).push (seqObj "list" vs.toArray 0) }
  rw [hsz]
  refine wpAny_bind (wpAny_holding (wpAny_call_entry slot_list_sort ⟨_, hoL, rfl⟩ entry_list_sort (list_sort_ord O hoL hz (fun h2 => hS h2 _ _ hoL keep) fun out hs hb => ⟨_, rfl, ?_⟩) (args_list_sort _)))
  exact wpAny_pure ⟨_, rfl, h out hs hb⟩
end
def rSortedTI (K : PySem.W.Frag) : List V → Hp → VK → Prop := fun vs H Q => ∃ (a : Addr) (ns : List Int), vs = [V.ref a] ∧ SqT K H a (ns.map V.int) ∧
  ∀ (ns' : List Int) (p : Addr), ns'.Perm ns → ns'.Pairwise (· ≤ ·) → H p = none → Q (.ref p) (upd H p (.lst (ns'.map V.int)))
theorem cr_sortedTI {X : Cx} : CallR X (.builtin "sorted") (rSortedTI X.K) := by
  intro pins s σ H vs us Q I r h
  obtain ⟨a, ns, rfl, hs, q⟩ := h
  obtain ⟨its, rv, hl, hz⟩ := I.tuple hs
  rw [Vals.ref1 r]
  have hi := rv.ints
  refine sorted_ordT SrtO.swo_int hl (by rw [← rv.length]; exact hz) (fun h2 h₁ a' _ _ => SrtO.ints_sortable hi h2) fun out h1 h2 => ?_
  obtain ⟨k1, k2, k3⟩ := SrtO.ints_out hi h1 h2
  obtain ⟨ep, he'⟩ := PyProof.Rows.sortedAll_at s.heap its out.toArray
  have hlen : ((out.map SrtO.iv).map V.int).length ≤ sizeLine := by
    rw [List.length_map, k2.length_eq]
    rw [List.length_map] at hz
    exact hz
  exact ⟨.ref _, upd H (s.heap.objs.size + 1) (.lst ((out.map SrtO.iv).map V.int)), I.laid (t' := s.toks) (fun _ _ => PyProof.Rows.sortedAll_old) (Nat.le_succ _) ⟨hlen, out, ep, vals_of_ints k1, he'⟩, rfl, q _ _ k2 k3 (I.hok.fresh (Nat.le_succ _))⟩
section
variable {P : Program} {w : World} {K : PySem.W.Frag} {mg : Str → Option Value} {base : Heap}
theorem ok_l_whole {f : Addr} {fd : FuncData} (F : Fun K "_law_whole" "_law_whole" s_l_whole f fd) (M : Free mg) : FnOk P w K mg base CX0 1 f fd ["_law_thing"] spWhole := by
  refine F.ok sc_l_whole (fun vs H Q E h => ?_) (fun cdv A outer s H vs Q E hr h => ?_)
  · obtain ⟨v, rfl, _⟩ := h
    rfl
  · obtain ⟨v, rfl, hk, q⟩ := h
    refine ⟨_, (pss_one (ps_ret (pe_and (pe_callB call_isi (by rfl) M.isinstance (by decide +kernel) (pa_cons (pv 0) (pa_cons (pe_bltn (v := .ty "int") (by rfl) M.int (by decide +kernel) rfl) pa_nil))) (pe_one (pe_not (pe_callB call_isi (by rfl) M.isinstance (by decide +kernel) (pa_cons (pv 0) (pa_cons (pe_bltn (v := .ty "bool") (by rfl) M.bool (by decide +kernel) rfl) pa_nil)))))))), ?_⟩
    obtain ⟨t1, h1, e1⟩ := kn_int (K := K) hk
    obtain ⟨t2, h2, e2⟩ := kn_bool (K := K) hk
    refine ⟨v, rfl, v, _, t1, _, _, rfl, .ty "int", h1, e1, _, rfl, ?_⟩
    rw [← and_whole] at q
    cases hi : isI v with
    | false =>
      rw [hi] at q
      exact q
    | true =>
      rw [hi] at q
      exact ⟨v, rfl, v, _, t2, _, _, rfl, .ty "bool", h2, e2, _, rfl, q⟩
end
/-! ### the ring that is told, by its way (mathematics) -/
theorem Way.head {N : Int → List Nu} {e s : Int} {qs ns : List Int} (h : Way N e s qs ns) : qs[0]? = some s := by cases h <;> rfl
theorem Way.last {N : Int → List Nu} {e s : Int} {qs ns : List Int} (h : Way N e s qs ns) : qs[ns.length]? = some e := by
  induction h with
  | one => rfl
  | cons _ _ _ ih => simpa using ih
theorem Way.each {N : Int → List Nu} {e s : Int} {qs ns : List Int} (h : Way N e s qs ns) : ∀ k : Nat, k < ns.length → ∃ x y m, qs[k]? = some x ∧ qs[k + 1]? = some y ∧ ns[k]? = some m ∧ (y, m) ∈ N x := by
  induction h with
  | one => exact fun k hk => absurd hk (by simp)
  | cons w hm _ ih =>
    intro k hk
    cases k with
    | zero => exact ⟨_, _, _, rfl, by simpa using w.head, rfl, hm⟩
    | succ k =>
      obtain ⟨x, y, m, h1, h2, h3, h4⟩ := ih k (by simpa using hk)
      exact ⟨x, y, m, by simpa using h1, by simpa using h2, by simpa using h3, h4⟩
theorem Way.nd {N : Int → List Nu} {e s : Int} {qs ns : List Int} (h : Way N e s qs ns) : qs.Nodup := by
  induction h with
  | one => simp
  | cons _ _ hp ih => exact List.nodup_cons.mpr ⟨hp, ih⟩
theorem Way.ends {ts : List Tie} {kn : List Int} {e s : Int} {qs ns : List Int} (h : Way (nN ts kn) e s qs ns) : ∀ m ∈ ns, (tieN ts m.toNat).one ∈ qs ∧ (tieN ts m.toNat).other ∈ qs := by
  induction h with
  | one => exact fun m hm => absurd hm (by simp)
  | cons w hm _ ih =>
    intro m hmm
    rcases List.mem_cons.mp hmm with z | z
    · subst z
      obtain ⟨_, j⟩ := mem_nN.mp hm
      have hc := List.mem_of_getElem? w.head
      rcases j with ⟨j1, j2⟩ | ⟨j1, j2⟩
      · rw [j1, j2]
        exact ⟨List.mem_cons_self, List.mem_cons_of_mem _ hc⟩
      · rw [j1, j2]
        exact ⟨List.mem_cons_of_mem _ hc, List.mem_cons_self⟩
    · obtain ⟨h1, h2⟩ := ih m z
      exact ⟨List.mem_cons_of_mem _ h1, List.mem_cons_of_mem _ h2⟩
theorem Way.ndn {ts : List Tie} {kn : List Int} {e s : Int} {qs ns : List Int} (h : Way (nN ts kn) e s qs ns) : ns.Nodup := by
  induction h with
  | one => simp
  | cons w hm hp ih =>
    refine List.nodup_cons.mpr ⟨fun hin => ?_, ih⟩
    obtain ⟨h1, h2⟩ := w.ends _ hin
    obtain ⟨_, j⟩ := mem_nN.mp hm
    rcases j with ⟨j1, j2⟩ | ⟨j1, j2⟩
    · exact hp (by rw [← j1]; exact h1)
    · exact hp (by rw [← j2]; exact h2)
theorem tieN_left {ts : List Tie} {t : Tie} {m : Int} (h : m < (ts.length : Int)) (h0 : 0 ≤ m) : tieN (ts ++ [t]) m.toNat = tieN ts m.toNat := by
  unfold tieN
  rw [List.getD_eq_getElem?_getD, List.getD_eq_getElem?_getD, List.getElem?_append_left (by omega)]
theorem tieN_right (ts : List Tie) (t : Tie) : tieN (ts ++ [t]) (ts.length : Int).toNat = t := by
  unfold tieN
  rw [List.getD_eq_getElem?_getD, Int.toNat_natCast, List.getElem?_append_right (Nat.le_refl _)]
  simp
/-- a ring through the tie that comes -/
structure RingN (n : Nat) (ts : List Tie) (fl : List Bool) (t : Tie) (qs ms : List Int) : Prop where
  len : qs.length = ms.length
  two : 2 ≤ qs.length
  few : ms.length ≤ 121
  own : (ts.length : Int) ∈ ms
  q : ∀ x ∈ qs, 0 ≤ x ∧ x < (n : Int)
  m : ∀ x ∈ ms, x ∈ knT fl true ∨ x = (ts.length : Int)
  qd : qs.Nodup
  md : ms.Nodup
  each : ∀ k : Nat, k < ms.length → ∃ x y m, qs[k]? = some x ∧ qs[(k + 1) % qs.length]? = some y ∧ ms[k]? = some m ∧ Jn (tieN (ts ++ [t]) m.toNat) x y
  par : fpar (ts ++ [t]) ms = true
theorem Way.ring {n : Nat} {ts : List Tie} {fl : List Bool} {t : Tie} {qs ns : List Int} (h : Way (nN ts (knT fl true)) t.other t.one qs ns) (hl : ts.length = fl.length) (few : ts.length ≤ 120) (ok : ∀ t ∈ ts, TieOk n t) (okt : TieOk n t) (hp : (fpar ts ns ^^ t.foe) = true) : RingN n ts fl t qs (ns ++ [(ts.length : Int)]) := by
  have hlen := h.len
  have num := h.num
  have kin : ∀ m ∈ knT fl true, 0 ≤ m ∧ m < (ts.length : Int) := fun m hm => by
    have := (mem_knT.mp hm).1
    omega
  have hne : ns ≠ [] := fun z => by
    have h1 := h.last
    rw [z, List.length_nil, h.head] at h1
    exact okt.2.2.2.2 (Option.some.inj h1)
  have hpos : 0 < ns.length := List.length_pos_iff.mpr hne
  have qrng : ∀ x ∈ qs, 0 ≤ x ∧ x < (n : Int) := by
    intro x hx
    obtain ⟨i, hi⟩ := List.getElem?_of_mem hx
    have hil : i < qs.length := (List.getElem?_eq_some_iff.mp hi).1
    by_cases hin : i < ns.length
    · obtain ⟨x', y, m, h1, h2, h3, h4⟩ := h.each i hin
      rw [hi] at h1
      obtain rfl := Option.some.inj h1
      obtain ⟨hm, j⟩ := mem_nN.mp h4
      have hm2 := kin m hm
      have o := ok (tieN ts m.toNat) (by
        unfold tieN
        rw [List.getD_eq_getElem?_getD, List.getElem?_eq_getElem (by omega)]
        exact List.getElem_mem _)
      rcases j with ⟨j1, _⟩ | ⟨_, j2⟩
      · rw [← j1]
        exact ⟨o.1, o.2.1⟩
      · rw [← j2]
        exact ⟨o.2.2.1, o.2.2.2.1⟩
    · have : i = ns.length := by omega
      rw [this, h.last] at hi
      rw [← Option.some.inj hi]
      exact ⟨okt.2.2.1, okt.2.2.2.1⟩
  have mlt : ns.length ≤ 120 := by
    have q1 : ns.length ≤ (knT fl true).length := by
      have : ∀ (as bs : List Int), as.Nodup → (∀ x ∈ as, x ∈ bs) → as.length ≤ bs.length := fun as => by
        induction as with
        | nil => exact fun _ _ _ => Nat.zero_le _
        | cons a as ih =>
          intro bs nd hs
          rw [List.nodup_cons] at nd
          have ha := hs a (by simp)
          have := ih (bs.erase a) nd.2 fun x hx => (List.mem_erase_of_ne (fun z => nd.1 (by rw [← z]; exact hx))).mpr (hs x (List.mem_cons_of_mem _ hx))
          rw [List.length_erase_of_mem ha] at this
          have : 0 < bs.length := List.length_pos_of_mem ha
          rw [List.length_cons]
          omega
      exact this _ _ h.ndn num
    have := knT_len fl true
    omega
  refine ⟨by simp [hlen], by omega, by simp; omega, by simp, qrng, fun x hx => ?_, h.nd, ?_, fun k hk => ?_, ?_⟩
  · rcases List.mem_append.mp hx with z | z
    · exact .inl (num x z)
    · exact .inr (List.mem_singleton.mp z)
  · refine List.nodup_append.mpr ⟨h.ndn, by simp, fun a ha b hb => ?_⟩
    rw [List.mem_singleton.mp hb]
    have := kin a (num a ha)
    omega
  · rw [List.length_append] at hk
    by_cases hin : k < ns.length
    · obtain ⟨x, y, m, h1, h2, h3, h4⟩ := h.each k hin
      obtain ⟨hm, j⟩ := mem_nN.mp h4
      have hm2 := kin m hm
      refine ⟨x, y, m, h1, ?_, ?_, ?_⟩
      · rw [Nat.mod_eq_of_lt (by omega)]
        exact h2
      · rw [List.getElem?_append_left hin]
        exact h3
      · rw [tieN_left hm2.2 hm2.1]
        exact j
    · have : k = ns.length := by simp at hk; omega
      subst this
      refine ⟨t.other, t.one, (ts.length : Int), h.last, ?_, ?_, ?_⟩
      · rw [hlen, Nat.mod_self]
        exact h.head
      · rw [List.getElem?_append_right (Nat.le_refl _)]
        simp
      · rw [tieN_right]
        exact .inr ⟨rfl, rfl⟩
  · rw [fpar_snoc, tieN_right, ← hp]
    congr 1
    have e2 : ∀ ms : List Int, (∀ m ∈ ms, m ∈ knT fl true) → fpar (ts ++ [t]) ms = fpar ts ms := fun ms => by
      induction ms with
      | nil => exact fun _ => rfl
      | cons m ms ih =>
        intro hm
        show ((tieN (ts ++ [t]) m.toNat).foe ^^ fpar (ts ++ [t]) ms) = ((tieN ts m.toNat).foe ^^ fpar ts ms)
        have := kin m (hm m (by simp))
        rw [tieN_left this.2 this.1, ih fun x hx => hm x (List.mem_cons_of_mem _ hx)]
    exact e2 ns num
theorem row_at {H : Hp} {ks : List V} {ts : List Tie} {fl : List Bool} {t : Tie} {c : Addr} (hp : Paired (KV H) ks (ts.zip fl)) (hl : ts.length = fl.length) (hc : H c = some (.tup [.int t.one, .int t.other, .str (kindS t.foe)])) {m : Int} (hm : m ∈ knT fl true ∨ m = (ts.length : Int)) : ∃ a, 0 ≤ m ∧ m < ((ks ++ [V.ref c]).length : Int) ∧ (ks ++ [V.ref c])[m.toNat]? = some (.ref a) ∧ H a = some (.tup [.int (tieN (ts ++ [t]) m.toNat).one, .int (tieN (ts ++ [t]) m.toNat).other, .str (kindS (tieN (ts ++ [t]) m.toNat).foe)]) := by
  have lk : ks.length = ts.length := by
    have := Paired.length hp
    rw [List.length_zip] at this
    omega
  rcases hm with hm | rfl
  · obtain ⟨⟨m0, m1⟩, h2⟩ := mem_knT.mp hm
    have hmk : m.toNat < ks.length := by omega
    obtain ⟨b, eb, hb⟩ := Paired.at hp (List.getElem?_eq_getElem hmk)
    obtain ⟨e1, e2⟩ := List.getElem?_zip_eq_some.mp eb
    rw [h2] at e2
    have e2 : b.2 = true := (Option.some.inj e2).symm
    rcases hb with ⟨_, a, ha, hv⟩ | ⟨z, _⟩
    · refine ⟨a, m0, by rw [List.length_append]; simp; omega, ?_, ?_⟩
      · rw [List.getElem?_append_left hmk, List.getElem?_eq_getElem hmk, ha]
      · rw [tieN_left (by omega) m0, tieN_of e1]
        exact hv
    · rw [e2] at z
      cases z
  · refine ⟨c, by omega, by rw [List.length_append]; simp; omega, ?_, ?_⟩
    · rw [Int.toNat_natCast, ← lk, List.getElem?_append_right (Nat.le_refl _)]
      simp
    · rw [tieN_right]
      exact hc
theorem cntF_snoc (ts : List Tie) (ms : List Int) (m : Int) : ((cntF ts (ms ++ [m]) : Nat) : Int) = (cntF ts ms : Nat) + (if (tieN ts m.toNat).foe = true then 1 else 0) := by
  unfold cntF
  rw [List.filter_append, List.length_append]
  cases h : (tieN ts m.toNat).foe
  · rw [List.filter_cons_of_neg (by simp [h])]
    simp
  · rw [List.filter_cons_of_pos (by simp [h])]
    simp
theorem jn_sort {T : Tie} {x y : Int} (j : Jn T x y) : [min T.one T.other, max T.one T.other] = [min x y, max x y] := by
  rcases j with ⟨h1, h2⟩ | ⟨h1, h2⟩
  · rw [h1, h2]
  · rw [h1, h2, Int.min_comm, Int.max_comm]
def spRing : Sp := fun vs H Q _ => ∃ (L c r a b : Addr) (n : Nat) (ks : List V) (ts : List Tie) (fl : List Bool) (t : Tie) (qs ms : List Int), vs = [.int n, .ref L, .ref c, .ref r] ∧ H L = some (.lst ks) ∧ Paired (KV H) ks (ts.zip fl) ∧ ts.length = fl.length ∧ ts.length ≤ 120 ∧ H c = some (.tup [.int t.one, .int t.other, .str (kindS t.foe)]) ∧ H r = some (.tup [.ref a, .ref b]) ∧ H a = some (.tup (qs.map V.int)) ∧ H b = some (.tup (ms.map V.int)) ∧ RingN n ts fl t qs ms ∧ ∀ H', Same H H' → Q (.bl true) H'
section
variable {P : Program} {w : World} {K : PySem.W.Frag} {mg : Str → Option Value} {base : Heap}
theorem ok_l_ring_right {f : Addr} {fd : FuncData} (F : Fun K "_law_ring_right" "_law_ring_right" s_l_ring_right f fd) (M : Free mg) (m_enumerate : mg "enumerate" = none) (m_set : mg "set" = none) (m_sorted : mg "sorted" = none) (D_l_whole : Df P w K mg base 1 "_law_whole" ["_law_thing"] spWhole) : FnOk P w K mg base CX0 2 f fd ["_law_many_here", "_law_ties", "_law_tie", "_law_told"] spRing := by
  obtain ⟨f_l_whole, fd_l_whole, G_l_whole, g_l_whole, k_l_whole, b_l_whole⟩ := D_l_whole
  refine F.ok sc_l_ring_right (fun vs H Q E h => ?_) (fun cdv A outer s H vs Q E hr h => ?_)
  · obtain ⟨L, c, r, a, b, n, ks, ts, fl, t, qs, ms, rfl, _⟩ := h
    rfl
  · obtain ⟨L, c, r, a, b, n, ks, ts, fl, t, qs, ms, rfl, hL, hk, hl, few, hc, hr0, ha, hb, R, q⟩ := h
    refine ⟨_, (pss_cons (ps_if (PW.pt (pw_or (pt_not (pt_val (pe_callB call_isi (by rfl) M.isinstance (by decide +kernel) (pa_cons (pv 3) (pa_cons (pe_bltn (v := .ty "tuple") (by rfl) M.tuple (by decide +kernel) rfl) pa_nil))))) (pw_or1 (pt_cmpR op_ne (pe_callB call_len_seq (by rfl) M.len PySem.boot_len (pa_cons (pv 3) pa_nil)) pe_int (nomark _)))))
        (pss_one (ps_ret pe_bl))
        pss_nil)
      (pss_cons (ps_asg (pv 3) (pg_tup rfl (pgs_cons (pg_name (i := 4) sc_l_ring_right.nd rfl (.inl rfl)) (pgs_cons (pg_name (i := 5) sc_l_ring_right.nd rfl (.inl rfl)) pgs_nil))))
      (pss_cons (ps_if (PW.pt (pw_or (pt_not (pt_val (pe_callB call_isi (by rfl) M.isinstance (by decide +kernel) (pa_cons (pv 4) (pa_cons (pe_bltn (v := .ty "tuple") (by rfl) M.tuple (by decide +kernel) rfl) pa_nil))))) (pw_or1 (pt_not (pt_val (pe_callB call_isi (by rfl) M.isinstance (by decide +kernel) (pa_cons (pv 5) (pa_cons (pe_bltn (v := .ty "tuple") (by rfl) M.tuple (by decide +kernel) rfl) pa_nil))))))))
        (pss_one (ps_ret pe_bl))
        pss_nil)
      (pss_cons (ps_if (PW.pt (pw_or (pt_cmpR op_ne (pe_callB call_len_seq (by rfl) M.len PySem.boot_len (pa_cons (pv 4) pa_nil)) (pe_callB call_len_seq (by rfl) M.len PySem.boot_len (pa_cons (pv 5) pa_nil)) (nomark _)) (pw_or (pt_cmpR op_lt (pe_callB call_len_seq (by rfl) M.len PySem.boot_len (pa_cons (pv 4) pa_nil)) pe_int (nomark _)) (pw_or1 (pt_cmpR op_notIn_seq (pe_callB call_len_seq (by rfl) M.len PySem.boot_len (pa_cons (pv 1) pa_nil)) (pv 5) rfl)))))
        (pss_one (ps_ret pe_bl))
        pss_nil)
      (pss_cons (ps_if (pt_cmpR (op_neE hr.units0) (pe_lc (own := [("_law_one", 6)]) (g := (gName 6)) (te := tVar 6) rfl sc_l_ring_right.nd (pi_tup (pe_op op_catU (pv 4) (pv 5))) (blkOk_by (N := N_l_ring_right) (sc := defScope s_l_ring_right) (own := [("_law_one", 6)]) (by decide +kernel)) (fun _ _ _ _ _ => (pg_name (i := 6) sc_l_ring_right.nd rfl (.inl rfl))) (fun _ _ _ _ _ => (pts_one (PW.pt (pw_or (pt_not (pt_val (pe_call G_l_whole (hr.mono (by decide)) (by rfl) g_l_whole k_l_whole b_l_whole .nil pass0 (pa_cons (pv 6) pa_nil)))) (pw_or1 (pt_cmpR op_lt (pv 6) pe_int (nomark _))))))) (fun _ _ _ _ _ => (pv 6))) (pe_lst pa_nil) (nomark _))
        (pss_one (ps_ret pe_bl))
        pss_nil)
      (pss_cons (ps_if (PW.pt (pw_or (pt_cmpR op_lt (pe_lenSetT (by rfl) M.len (by rfl) m_set (pv 4)) (pe_callB call_len_seq (by rfl) M.len PySem.boot_len (pa_cons (pv 4) pa_nil)) (nomark _)) (pw_or1 (pt_cmpR op_lt (pe_lenSetT (by rfl) M.len (by rfl) m_set (pv 5)) (pe_callB call_len_seq (by rfl) M.len PySem.boot_len (pa_cons (pv 5) pa_nil)) (nomark _)))))
        (pss_one (ps_ret pe_bl))
        pss_nil)
      (pss_cons (ps_set (i := 7) sc_l_ring_right.nd rfl (.inl rfl) (pe_op op_cat (pv 1) (pe_lst (pa_cons (pv 2) pa_nil))))
      (pss_cons (ps_set (i := 8) sc_l_ring_right.nd rfl (.inl rfl) pe_int)
      (pss_cons (ps_for PassesOwn.never rfl (pi_enumT (by rfl) m_enumerate (pa_cons (pv 5) pa_nil)) (pg_tup rfl (pgs_cons (pg_name (i := 9) sc_l_ring_right.nd rfl (.inl rfl)) (pgs_cons (pg_name (i := 10) sc_l_ring_right.nd rfl (.inl rfl)) pgs_nil)))
        (pss_cons (ps_if (PW.pt (pw_or (pt_cmpR op_ge (pe_ix ix_tup (pv 4) (pv 9) (fun _ _ => rfl)) (pv 0) (nomark _)) (pw_or (pt_cmpR op_ge (pv 10) (pe_callB call_len_seq (by rfl) M.len PySem.boot_len (pa_cons (pv 7) pa_nil)) (nomark _)) (pw_or1 (pt_cmpR op_isN (pe_ix ix_list (pv 7) (pv 10) (fun _ _ => rfl)) pe_non (nomark _))))))
          (pss_one (ps_ret pe_bl))
          pss_nil)
        (pss_cons (ps_if (pt_cmpR (op_neD hr.units) (pe_callB cr_sortedTI (by rfl) m_sorted (by decide +kernel) (pa_cons (pe_slice sl_tupU (pe_ix ix_list (pv 7) (pv 10) (fun _ _ => rfl)) po_none (po_some pe_int)) pa_nil)) (pe_callB cr_sortedI (by rfl) m_sorted (by decide +kernel) (pa_cons (pe_lst (pa_cons (pe_ix ix_tup (pv 4) (pv 9) (fun _ _ => rfl)) (pa_cons (pe_ix ix_tup (pv 4) (pe_op op_mod (pe_op op_add (pv 9) pe_int) (pe_callB call_len_seq (by rfl) M.len PySem.boot_len (pa_cons (pv 4) pa_nil))) (fun _ _ => rfl)) pa_nil))) pa_nil)) (nomark _))
          (pss_one (ps_ret pe_bl))
          pss_nil)
        (pss_one (ps_set (i := 8) sc_l_ring_right.nd rfl (.inl rfl) (pe_op op_add (pv 8) (pe_callTy call_int1 (by rfl) M.int (by decide +kernel) (pa_cons (pe_cmpR op_eq (pe_ix ix_tup (pe_ix ix_list (pv 7) (pv 10) (fun _ _ => rfl)) pe_int (fun _ _ => rfl)) pe_str (nomark _)) pa_nil))))))))
      (pss_one (ps_ret (pe_cmpR op_eq (pe_op op_mod (pv 8) pe_int) pe_int (nomark _))))))))))))), ?_⟩
    have lk : ks.length = ts.length := by
      have := Paired.length hk
      rw [List.length_zip] at this
      omega
    have lq := R.len
    have two := R.two
    have lm := R.few
    obtain ⟨t1, h1, e1⟩ := kn_tup (K := K) (H := H) (v := .ref r) (.inr (.inl ⟨_, hr0⟩))
    obtain ⟨t2, h2, e2⟩ := kn_tup (K := K) (H := H) (v := .ref a) (.inr (.inl ⟨_, ha⟩))
    obtain ⟨t3, h3, e3⟩ := kn_tup (K := K) (H := H) (v := .ref b) (.inr (.inl ⟨_, hb⟩))
    rw [isT_of hr0] at e1
    rw [isT_of ha] at e2
    rw [isT_of hb] at e3
    refine ⟨.ref r, rfl, .ref r, _, t1, _, _, rfl, .ty "tuple", h1, e1, _, rfl, ?_⟩
    refine ⟨.ref r, rfl, r, _, rfl, .inr (SqT.of hr0), rfl, _, rfl, ?_⟩
    refine ⟨.ref r, rfl, r, _, rfl, SqT.of hr0, rfl, _, _, rfl, _, _, rfl, rfl, ?_⟩
    refine ⟨.ref a, rfl, .ref a, _, t2, _, _, rfl, .ty "tuple", h2, e2, _, rfl, ?_⟩
    refine ⟨.ref b, rfl, .ref b, _, t3, _, _, rfl, .ty "tuple", h3, e3, _, rfl, ?_⟩
    -- lengths
    refine ⟨.ref a, rfl, a, _, rfl, .inr (SqT.of ha), .ref b, rfl, b, _, rfl, .inr (SqT.of hb), rfl, _, rfl, ?_⟩
    rw [List.length_map, List.length_map, decide_eq_true (show V.int (qs.length : Int) = V.int (ms.length : Int) by rw [lq])]
    refine ⟨.ref a, rfl, a, _, rfl, .inr (SqT.of ha), _, 2, rfl, rfl, _, rfl, ?_⟩
    rw [List.length_map, decide_eq_false (show ¬ ((qs.length : Int) < 2) by omega)]
    refine ⟨.ref L, rfl, L, _, rfl, .inl (SqL.of hL), .ref b, rfl, b, _, rfl, .inr (SqT.of hb), rfl, flat_ints _, _, rfl, ?_⟩
    have inn : inV (.int (ks.length : Nat)) (ms.map V.int) = true := by
      unfold inV
      rw [List.any_map, List.any_eq_true]
      refine ⟨_, R.own, ?_⟩
      show ((ts.length : Int) == ((ks.length : Nat) : Int)) = true
      rw [lk]
      simp
    rw [inn]
    -- whole, none below nought
    refine ⟨.ref a, rfl, .ref b, rfl, a, b, _, _, rfl, rfl, ha, hb, by rw [List.length_map, List.length_map]; omega, fun ab H1 s1 hab => ?_⟩
    refine ⟨ab, rfl, ⟨_, SqT.of hab⟩, fun X nX => ?_⟩
    refine lc_tup (xs := qs.map V.int ++ ms.map V.int) (fun j H' => H' = upd H1 X (.lst [])) rfl (fun j H' _ h => by rw [h]; exact SqT.of (same_new nX _ _ hab)) ?_ ?_
    · rintro j x H' ex rfl
      have hx := List.mem_of_getElem? ex
      rw [← List.map_append] at hx
      obtain ⟨z, hz, rfl⟩ := List.mem_map.mp hx
      have z0 : 0 ≤ z := by
        rcases List.mem_append.mp hz with y | y
        · exact (R.q z y).1
        · rcases R.m z y with u | u
          · exact (mem_knT.mp u).1.1
          · omega
      refine ⟨rfl, .int z, rfl, .int z, rfl, trivial, _, rfl, .int z, rfl, z, 0, rfl, rfl, _, rfl, ?_⟩
      rw [decide_eq_false (show ¬ z < 0 by omega)]
      exact rfl
    rintro H' rfl
    refine ⟨Nat.zero_le _, fun Y nY => ⟨X, Y, [], rfl, rfl, SqL.of (same_new nY _ _ upd_same), SqL.of upd_same, _, rfl, ?_⟩⟩
    have s2 := (s1.trans (same_new (o := .lst []) nX)).trans (same_new (o := .lst []) nY)
    generalize upd (upd H1 X (.lst [])) Y (.lst []) = H2 at s2
    -- no two alike
    refine ⟨.ref a, rfl, a, qs, rfl, SqT.of (s2 _ _ ha), by omega, fun c1 hc1 => ?_⟩
    refine ⟨.ref a, rfl, a, _, rfl, .inr (SqT.of (s2 _ _ ha)), _, _, rfl, rfl, _, rfl, ?_⟩
    rw [List.length_map, hc1.mpr R.qd, decide_eq_false (show ¬ ((qs.length : Int) < (qs.length : Int)) by omega)]
    refine ⟨.ref b, rfl, b, ms, rfl, SqT.of (s2 _ _ hb), by omega, fun c2 hc2 => ?_⟩
    refine ⟨.ref b, rfl, b, _, rfl, .inr (SqT.of (s2 _ _ hb)), _, _, rfl, rfl, _, rfl, ?_⟩
    rw [List.length_map, hc2.mpr R.md, decide_eq_false (show ¬ ((ms.length : Int) < (ms.length : Int)) by omega)]
    -- rows
    refine ⟨.ref L, rfl, .ref c, rfl, by show 1 ≤ sizeLine; decide, fun O nO => ?_⟩
    have sO := same_new (o := .lst [.ref c]) nO
    refine ⟨L, O, ks, [.ref c], rfl, rfl, sO _ _ (s2 _ _ hL), upd_same, by show ks.length + 1 ≤ sizeLine; have := small1000 (n := ks.length) (by omega); omega, fun Rw nR => ?_⟩
    have s3 := (s2.trans sO).trans (same_new (o := .lst (ks ++ [.ref c])) nR)
    have hRw := upd_same (H := upd H2 O (.lst [.ref c])) (a := Rw) (o := .lst (ks ++ [.ref c]))
    generalize upd (upd H2 O (.lst [.ref c])) Rw (.lst (ks ++ [.ref c])) = H3 at s3 hRw
    refine ⟨.ref b, rfl, b, _, rfl, SqT.of (s3 _ _ hb), ?_⟩
    refine for_it (walk_enumT (xs := ms.map V.int)) (fun i σ' H' => ∃ (y9 y10 : Option V), σ' = [some (.int n), some (.ref L), some (.ref c), some (.ref r), some (.ref a), some (.ref b), none, some (.ref Rw), some (.int (cntF (ts ++ [t]) (ms.take i) : Nat)), y9, y10] ∧ Same H3 H') ⟨none, none, rfl, Same.refl _⟩ (fun i σ' H' _ h => by
      obtain ⟨_, _, _, s4⟩ := h
      exact SqT.of (s4 _ _ (s3 _ _ hb))) ?_ ?_
    · rintro i x σ' H4 H5 hi ⟨y9, y10, rfl, s4⟩ ⟨T, x1, y1, rfl, nT, rfl, gx, gy⟩
      obtain rfl : V.int (i : Nat) = x1 := Option.some.inj gx
      have him : i < ms.length := by rw [List.length_map] at hi; exact hi
      obtain ⟨x, y, m, hx, hy, hm, j⟩ := R.each i him
      have gy : (ms.map V.int)[i]? = some y1 := gy
      rw [List.getElem?_map, hm] at gy
      obtain rfl : V.int m = y1 := Option.some.inj gy
      have sT := same_new (o := .tup [.int (i : Nat), .int m]) nT
      have s5 := s4.trans sT
      have sH5 := s3.trans s5
      generalize eH5 : upd H4 T (.tup [.int (i : Nat), .int m]) = H5 at sT s5 sH5
      obtain ⟨d, m0, m1, hd1, hd2⟩ := row_at (t := t) (kvs_tk (Same.tk sH5) hk) hl (sH5 _ _ hc) (R.m m (List.mem_of_getElem? hm))
      generalize hTn : tieN (ts ++ [t]) m.toNat = Tm at hd2 j
      have hx0 := R.q x (List.mem_of_getElem? hx)
      refine ⟨T, _, rfl, SqT.of (by rw [← eH5]; exact upd_same), rfl, _, _, rfl, _, _, rfl, rfl, ?_⟩
      refine ⟨.ref a, rfl, .int (i : Nat), rfl, a, _, (i : Nat), .int x, rfl, rfl, SqT.of (sH5 _ _ ha), atI_nat (j := i) (by rw [List.getElem?_map, hx]; rfl), .int n, rfl, _, _, rfl, rfl, _, rfl, ?_⟩
      rw [decide_eq_false (show ¬ ((n : Int) ≤ x) by omega)]
      refine ⟨.int m, rfl, .ref Rw, rfl, Rw, _, rfl, .inl (SqL.of (s5 _ _ hRw)), _, _, rfl, rfl, _, rfl, ?_⟩
      rw [decide_eq_false (by omega)]
      refine ⟨.ref Rw, rfl, .int m, rfl, Rw, _, m, .ref d, rfl, rfl, SqL.of (s5 _ _ hRw), atI_of m0 hd1, rfl, _, rfl, ?_⟩
      -- sorted
      refine ⟨.ref Rw, rfl, .int m, rfl, Rw, _, m, .ref d, rfl, rfl, SqL.of (s5 _ _ hRw), atI_of m0 hd1, _, rfl, d, _, rfl, hd2, fun w1 H6 s6 hw1 => ?_⟩
      refine ⟨w1, [Tm.one, Tm.other], rfl, SqT.of hw1, fun ns1 p1 pm1 so1 np1 => ?_⟩
      have sP := same_new (o := .lst (ns1.map V.int)) np1
      have s57 := s6.trans sP
      have sH7 := sH5.trans s57
      refine ⟨.ref a, rfl, .int (i : Nat), rfl, a, _, (i : Nat), .int x, rfl, rfl, SqT.of (sH7 _ _ ha), atI_nat (j := i) (by rw [List.getElem?_map, hx]; rfl), ?_⟩
      refine ⟨.ref a, rfl, .int (i : Nat), rfl, _, _, rfl, rfl, .ref a, rfl, a, _, rfl, .inr (SqT.of (sH7 _ _ ha)), _, _, rfl, rfl, (by show (0 : Int) < _; rw [List.length_map]; omega), a, _, _, .int y, rfl, rfl, SqT.of (sH7 _ _ ha), ?_, by show 2 ≤ sizeLine; decide, fun w2 nw2 => ?_⟩
      · rw [List.length_map]
        have e : ((i : Nat) : Int) + 1 = (((i + 1 : Nat) : Nat) : Int) := by omega
        rw [e, ← Int.natCast_emod]
        exact atI_nat (by rw [List.getElem?_map, hy]; rfl)
      have sw2 := same_new (o := .lst [.int x, .int y]) nw2
      refine ⟨w2, [x, y], rfl, SqL.of upd_same, fun ns2 p2 pm2 so2 np2 => ?_⟩
      have sp2 := same_new (o := .lst (ns2.map V.int)) np2
      have s8 := sw2.trans sp2
      have eN : ns1 = ns2 := by rw [sort2 pm1 so1, sort2 pm2 so2, jn_sort j]
      refine ⟨listD ns1, listD ns2, .lst (SqL.of (s8 _ _ upd_same)) (dp_ints _), .lst (SqL.of upd_same) (dp_ints _), shaped_listD _, shaped_listD _, _, rfl, ?_⟩
      rw [eqv_listD, decide_eq_true eN]
      have s58 := s57.trans s8
      -- the foes
      refine ⟨_, rfl, .ref Rw, rfl, .int m, rfl, Rw, _, m, .ref d, rfl, rfl, SqL.of (s58 _ _ (s5 _ _ hRw)), atI_of m0 hd1, d, _, 2, .str (kindS Tm.foe), rfl, rfl, SqT.of (s58 _ _ hd2), rfl, rfl, .inr ⟨_, rfl, _, _, rfl, rfl, ?_⟩⟩
      refine ⟨some (.int (i : Nat)), some (.int m), ?_, s5.trans s58⟩
      have ek : decide (V.str (kindS Tm.foe) = V.str "foe") = Tm.foe := by cases Tm.foe <;> decide +kernel
      rw [List.take_add_one, hm, Option.toList_some, cntF_snoc, hTn, ek]
      rfl
    · rintro σ' H4 ⟨y9, y10, rfl, s4⟩
      refine ⟨_, rfl, _, _, rfl, rfl, (show (0 : Int) < 2 by decide), rfl, ?_⟩
      rw [List.length_map, List.take_length, dec_int', cntF_par, R.par]
      exact q _ (s3.trans s4)
end
/-! ### the first tie that breaks (mathematics) -/
theorem sides_walk {ts : List Tie} {s : Int → Bool} (h : ∀ t ∈ ts, (s t.one ^^ s t.other) = t.foe) {x y : Int} {p : Bool} (r : RP ts x y p) : (s x ^^ s y) = p := by
  induction r with
  | nil => exact Bool.xor_self _
  | step r ad ih =>
    obtain ⟨t, ht, e, q⟩ := ad
    have hy := h t ht
    rw [← e, ← hy]
    rcases q with ⟨q1, q2⟩ | ⟨q1, q2⟩
    · rw [q1, q2, ← ih]
      exact xor3 _ _ _
    · rw [q1, q2, ← ih]
      exact xor3' _ _ _
theorem gs_ex {n : Nat} {ts : List Tie} : (∀ t ∈ ts, TieOk n t) → ∃ g s good, GS ts n g s good := by
  refine snocInd (P := fun ts => (∀ t ∈ ts, TieOk n t) → ∃ g s good, GS ts n g s good) (fun _ => ⟨_, _, _, GS.nil n⟩) (fun l a ih ok => ?_) ts
  obtain ⟨g, s, good, gs⟩ := ih fun t ht => ok t (List.mem_append_left _ ht)
  exact ⟨_, _, _, gs.step (fun t ht => ok t (List.mem_append_left _ ht)) (ok a (by simp)) rfl rfl rfl⟩
theorem calm_gs {n : Nat} {ts : List Tie} (ok : ∀ t ∈ ts, TieOk n t) (h : ¬ Odd ts n) : ∃ g s, GS ts n g s true := by
  obtain ⟨g, s, good, gs⟩ := gs_ex ok
  cases good
  · exact absurd (gs.no rfl) h
  · exact ⟨g, s, gs⟩
theorem calm_iff {n : Nat} {ts : List Tie} (ok : ∀ t ∈ ts, TieOk n t) : ¬ Odd ts n ↔ ∃ s : Int → Bool, ∀ t ∈ ts, (s t.one ^^ s t.other) = t.foe := by
  constructor
  · intro h
    obtain ⟨g, s, gs⟩ := calm_gs ok h
    exact ⟨fun i => bit (s i), gs.yes rfl⟩
  · rintro ⟨s, hs⟩ ⟨x, _, r⟩
    have := sides_walk hs r
    rw [Bool.xor_self] at this
    cases this
theorem kps_calm {n : Nat} {ts : List Tie} {t : Tie} (ok : ∀ t ∈ ts, TieOk n t) (okt : TieOk n t) (h : ¬ Odd ts n) : Kps ts t ↔ ¬ Odd (ts ++ [t]) n := by
  constructor
  · intro k
    obtain ⟨g, s, gs⟩ := calm_gs ok h
    exact gs.calm_step ok okt k
  · intro o
    by_cases r : Rch ts t.one t.other
    · obtain ⟨p, rp⟩ := r
      refine .inr ?_
      obtain ⟨s, hs⟩ := (calm_iff (ts := ts ++ [t]) (fun x hx => by
        rcases List.mem_append.mp hx with z | z
        · exact ok x z
        · rw [List.mem_singleton.mp z]
          exact okt)).mp o
      have h1 := sides_walk (fun x hx => hs x (List.mem_append_left _ hx)) rp
      have h2 := hs t (by simp)
      rw [h1] at h2
      rw [← h2]
      exact rp
    · exact .inl r
def FirstAt (ts : List Tie) (n k : Nat) : Prop := k < ts.length ∧ ¬ Odd (ts.take k) n ∧ Odd (ts.take (k + 1)) n
theorem take_mono {ts : List Tie} {i j : Nat} (h : i ≤ j) : ∀ t ∈ ts.take i, t ∈ ts.take j := fun t ht => by
  have : ts.take i = (ts.take j).take i := by rw [List.take_take, Nat.min_eq_left h]
  rw [this] at ht
  exact List.mem_of_mem_take ht
theorem FirstAt.one {ts : List Tie} {n i j : Nat} (a : FirstAt ts n i) (b : FirstAt ts n j) : i = j := by
  by_cases h : i < j
  · exact absurd (Odd.mono (take_mono (by omega : i + 1 ≤ j)) a.2.2) b.2.1
  · by_cases h2 : j < i
    · exact absurd (Odd.mono (take_mono (by omega : j + 1 ≤ i)) b.2.2) a.2.1
    · omega
theorem FirstAt.odd {ts : List Tie} {n k : Nat} (a : FirstAt ts n k) : Odd ts n := Odd.mono (fun _ ht => List.mem_of_mem_take ht) a.2.2
theorem kt_all : ∀ ts : List Tie, kt ts (List.replicate ts.length true) = ts
  | [] => rfl
  | t :: ts => by
    show (if true = true then t :: kt ts (List.replicate ts.length true) else kt ts (List.replicate ts.length true)) = t :: ts
    rw [if_pos rfl, kt_all ts]
theorem kt_takeAll {ts : List Tie} {i : Nat} (h : i ≤ ts.length) : kt (ts.take i) (List.replicate i true) = ts.take i := by
  have e : i = (ts.take i).length := by rw [List.length_take, Nat.min_eq_left h]
  conv => lhs; rw [show List.replicate i true = List.replicate (ts.take i).length true by rw [← e]]
  exact kt_all _
theorem rep_snoc (i : Nat) : List.replicate (i + 1) true = List.replicate i true ++ [true] := by rw [List.replicate_succ']
/-! ### first_broken -/
def spFB : Sp := fun vs H Q _ => ∃ (v : V) (n : Nat) (ts : List Tie), vs = [v] ∧ WebAt H v n ts ∧ WebOk n ts ∧ (∀ H', ¬ Odd ts n → Same H H' → Q .non H') ∧
  ∀ (k : Nat) (t : Tie) r rr a b qs ms H', FirstAt ts n k → ts[k]? = some t → RingN n (ts.take k) (List.replicate k true) t qs ms → (∃ ns, ms = ns ++ [(k : Int)] ∧ Exa (nN (ts.take k) (knT (List.replicate k true) true)) t.one t.other qs ns) → Same H H' → H' r = some (.tup [.int k, .ref rr]) → H' rr = some (.tup [.ref a, .ref b]) → H' a = some (.tup (qs.map V.int)) → H' b = some (.tup (ms.map V.int)) → Q (.ref r) H'
section
variable {P : Program} {w : World} {K : PySem.W.Frag} {mg : Str → Option Value} {base : Heap}
theorem ok_first_broken {f C fI : Addr} {fd fdI : FuncData} (F : Fun K "first_broken" "first_broken" s_first_broken f fd) (T : STx K C) (m_enumerate : mg "enumerate" = none) (mgC : mg "Stand" = some (.ref C)) (MK : Mk K C fI) (GI : FnOk P w K mg base CX0 1 fI fdI ["self", "many"] (spSInit C)) (bI : Binds K fdI ["self", "many"] [])
    (D_come : DfM P w K mg base 2 C "come" ["self", "one", "other", "kind"] (spSCome C)) : FnOk P w K mg base CX0 3 f fd ["web"] spFB := by
  obtain ⟨f_co, fd_co, G_co, m_co, b_co⟩ := D_come
  refine F.ok sc_first_broken (fun vs H Q E h => ?_) (fun cdv A outer s H vs Q E hr h => ?_)
  · obtain ⟨v, n, ts, rfl, _⟩ := h
    rfl
  · obtain ⟨v, n, ts, rfl, hW, ok, qn, qr⟩ := h
    refine ⟨_, (pss_cons (ps_set (i := 1) sc_first_broken.nd rfl (.inl rfl) (pe_make MK GI hr (by rfl) mgC bI .nil pass0 (pa_cons (pe_ix ix_tup (pv 0) pe_int (fun _ _ => rfl)) pa_nil)))
      (pss_cons (ps_for PassesOwn.never rfl (pi_enumT (by rfl) m_enumerate (pa_cons (pe_ix ix_tup (pv 0) pe_int (fun _ _ => rfl)) pa_nil)) (pg_tup rfl (pgs_cons (pg_name (i := 2) sc_first_broken.nd rfl (.inl rfl)) (pgs_cons (pg_tup rfl (pgs_cons (pg_name (i := 3) sc_first_broken.nd rfl (.inl rfl)) (pgs_cons (pg_name (i := 4) sc_first_broken.nd rfl (.inl rfl)) (pgs_cons (pg_name (i := 5) sc_first_broken.nd rfl (.inl rfl)) pgs_nil)))) pgs_nil)))
        (Evl.pss_cut (ps_set (i := 6) sc_first_broken.nd rfl (.inl rfl) (pe_meth (pv 1) T.cl m_co G_co hr b_co .nil pass0 (pa_cons (pv 3) (pa_cons (pv 4) (pa_cons (pv 5) pa_nil)))))
        (pss_one (ps_if (pt_cmpR op_notN (pv 6) pe_non (nomark _))
          (pss_one (ps_ret (pe_tup (pa_cons (pv 2) (pa_cons (pv 6) pa_nil)))))
          pss_nil))))
      (pss_one (ps_ret pe_non)))), ?_⟩
    obtain ⟨wa, wb, us, rfl, hwa, hwb, hp⟩ := id hW
    have n1 : 1 ≤ n := by have := ok.lo; omega
    have n40 : n ≤ 40 := by have := ok.hi; omega
    have few := ok.few
    have lu : us.length = ts.length := Paired.length hp
    refine ⟨.ref wa, rfl, wa, _, 0, .int n, rfl, rfl, SqT.of hwa, rfl, fun p dx np ndx nex => ⟨p, dx, n, rfl, upd_same, fun Ti Kk Lo H1 nT nK nL S1 k1 => ⟨rfl, ?_⟩⟩⟩
    have e0 := (same_new (o := .own p) ndx).trans (same_new (p := p) (o := .ins C dx []) (by rw [upd_ne (Ne.symm nex)]; exact np))
    have nT0 := e0.free nT
    have nK0 := e0.free nK
    have nL0 := e0.free nL
    have s1 : Same H H1 := fun b o e => k1 b o (e0 _ _ e) (ne_of_none e np)
    refine ⟨.ref wa, rfl, wa, _, 1, .ref wb, rfl, rfl, SqT.of (s1 _ _ hwa), rfl, wb, us, rfl, SqT.of (s1 _ _ hwb), ?_⟩
    refine for_it (walk_enumT (xs := us)) (fun i σ' H' => ∃ (y2 y3 y4 y5 y6 : Option V), σ' = [some (.ref wa), some (.ref p), y2, y3, y4, y5, y6] ∧ StA C H' p Ti Kk Lo n (ts.take i) (List.replicate i true) ∧ SI n (ts.take i) (List.replicate i true) ∧ Same H H') ⟨none, none, none, none, none, rfl, S1, SI.nil n1 n40, s1⟩ (fun i σ' H' _ h => by
      obtain ⟨_, _, _, _, _, _, _, _, s2⟩ := h
      exact SqT.of (s2 _ _ hwb)) ?_ ?_
    · rintro i x σ' H2 H3 hi ⟨y2, y3, y4, y5, y6, rfl, S2, si, s2⟩ ⟨Tp, x1, y1, rfl, nTp, rfl, gx, gy⟩
      obtain rfl : V.int (i : Nat) = x1 := Option.some.inj gx
      obtain ⟨t, et, c, rfl, hc⟩ := Paired.at hp gy
      have okt := ok.ok t (List.mem_of_getElem? et)
      have sT := same_new (o := .tup [.int (i : Nat), .ref c]) nTp
      have s3 := s2.trans sT
      have S3 := S2.same sT
      have hil : i < ts.length := (List.getElem?_eq_some_iff.mp et).1
      have ektk : kt (ts.take i) (List.replicate i true) = ts.take i := kt_takeAll (by omega)
      have etk : ts.take (i + 1) = ts.take i ++ [t] := take_snoc et
      have okk : ∀ x ∈ ts.take i, TieOk n x := fun x hx => ok.ok x (List.mem_of_mem_take hx)
      have calm : ¬ Odd (ts.take i) n := by
        have := si.calm
        rw [ektk] at this
        exact this
      have kc := kps_calm okk okt calm
      rw [← etk] at kc
      refine ⟨Tp, _, rfl, SqT.of upd_same, rfl, _, _, rfl, _, _, rfl, c, _, rfl, SqT.of (s3 _ _ hc), rfl, _, _, rfl, _, _, rfl, _, _, rfl, rfl, rfl, ?_⟩
      generalize upd H2 Tp (.tup [.int (i : Nat), .ref c]) = H3 at sT s3 S3
      obtain ⟨dx3, ob3⟩ := id S3.ob
      refine ⟨fun σ' H' => ∃ v6 : V, σ' = [some (.ref wa), some (.ref p), some (.int (i : Nat)), some (.int t.one), some (.int t.other), some (.str (kindS t.foe)), some v6] ∧ Same H H' ∧ ((v6 = .non ∧ ¬ Odd (ts.take (i + 1)) n ∧ StA C H' p Ti Kk Lo n (ts.take i ++ [t]) (List.replicate i true ++ [true])) ∨ (Odd (ts.take (i + 1)) n ∧ ∃ rr a b qs ms, v6 = .ref rr ∧ RingN n (ts.take i) (List.replicate i true) t qs ms ∧ (∃ ns, ms = ns ++ [(i : Int)] ∧ Exa (nN (ts.take i) (knT (List.replicate i true) true)) t.one t.other qs ns) ∧ H' rr = some (.tup [.ref a, .ref b]) ∧ H' a = some (.tup (qs.map V.int)) ∧ H' b = some (.tup (ms.map V.int)))), ?_, ?_⟩
      · refine ⟨.ref p, rfl, p, dx3, _, rfl, ob3, stF_no _ _ _ _ (by decide +kernel) (by decide +kernel) (by decide +kernel) (by decide +kernel), _, rfl, _, rfl, _, rfl, p, Ti, Kk, Lo, n, _, _, t, rfl, S3, si, okt, fun hk H4 k4 S4 => ?_, fun hk rr a b qs ms H4 k4 S4 hrr ha hb way exa par => ?_⟩
        · rw [ektk] at hk
          exact ⟨_, rfl, k4.keep s3 np nT0 nK0 nL0, .inl ⟨rfl, kc.mp hk, S4⟩⟩
        · rw [ektk] at hk
          refine ⟨_, rfl, k4.keep s3 np nT0 nK0 nL0, .inr ⟨Classical.byContradiction fun z => hk (kc.mpr z), rr, a, b, qs, _, rfl, way.ring si.len (by rw [List.length_take]; omega) okk okt par, ⟨_, by rw [List.length_take, Nat.min_eq_left (by omega)], exa⟩, hrr, ha, hb⟩⟩
      rintro σ' H4 ⟨v6, rfl, s4, h4⟩
      refine ⟨v6, rfl, rfl, _, rfl, ?_⟩
      rcases h4 with ⟨rfl, calm2, S4⟩ | ⟨odd, rr, a, b, qs, ms, rfl, ring, exa, hrr, ha, hb⟩
      · refine ⟨_, _, _, _, _, rfl, ?_, ?_, s4⟩
        · rw [etk, rep_snoc]
          exact S4
        · refine ⟨by rw [List.length_take, List.length_replicate]; omega, by rw [List.length_take]; omega, fun x hx => ok.ok x (List.mem_of_mem_take hx), ?_, n1, n40⟩
          rw [kt_takeAll (by omega)]
          exact calm2
      · refine ⟨_, rfl, _, rfl, by show 2 ≤ sizeLine; decide, fun r nr => ?_⟩
        have sr := same_new (o := .tup [.int (i : Nat), .ref rr]) nr
        exact qr i t r rr a b qs ms _ ⟨hil, calm, odd⟩ et ring exa (s4.trans sr) upd_same (sr _ _ hrr) (sr _ _ ha) (sr _ _ hb)
    · rintro σ' H2 ⟨y2, y3, y4, y5, y6, rfl, S2, si, s2⟩
      refine qn H2 ?_ s2
      have := si.calm
      rw [kt_takeAll (by omega), lu, List.take_length] at this
      exact this
end
/-! ### the law: other webs -/
theorem cut_take {xs : List V} {k : Nat} (h : k ≤ xs.length) : cutV xs none (some (k : Int)) = xs.take k := by
  unfold cutV
  rw [HT.sIx_none, HT.sIx_nat, Nat.min_eq_left h, List.drop_zero]
  rfl
theorem cut_drop {xs : List V} {k : Nat} (h : k ≤ xs.length) : cutV xs (some (k : Int)) none = xs.drop k := by
  unfold cutV
  rw [HT.sIx_none, HT.sIx_nat, Nat.min_eq_left h]
  exact List.take_of_length_le (by rw [List.length_drop]; omega)
/-! ### k35: first ties, by numbers (mathematics) -/
def NumAt (ts : List Tie) (n : Nat) (v : V) : Prop := (v = .non ∧ ¬ Odd ts n) ∨ ∃ k : Nat, v = .int k ∧ FirstAt ts n k
def swapT (t : Tie) : Tie := ⟨t.other, t.one, t.foe⟩
theorem TieOk.swap {n : Int} {t : Tie} (h : TieOk n t) : TieOk n (swapT t) := ⟨h.2.2.1, h.2.2.2.1, h.1, h.2.1, Ne.symm h.2.2.2.2⟩
theorem swap_calm {n : Nat} {ts : List Tie} (ok : ∀ t ∈ ts, TieOk n t) : ¬ Odd (ts.map swapT) n ↔ ¬ Odd ts n := by
  have ok' : ∀ t ∈ ts.map swapT, TieOk n t := fun t ht => by
    obtain ⟨u, hu, rfl⟩ := List.mem_map.mp ht
    exact (ok u hu).swap
  rw [calm_iff ok', calm_iff ok]
  constructor
  · rintro ⟨s, hs⟩
    refine ⟨s, fun t ht => ?_⟩
    have := hs _ (List.mem_map.mpr ⟨t, ht, rfl⟩)
    rw [Bool.xor_comm]
    exact this
  · rintro ⟨s, hs⟩
    refine ⟨s, fun t ht => ?_⟩
    obtain ⟨u, hu, rfl⟩ := List.mem_map.mp ht
    have := hs u hu
    rw [Bool.xor_comm] at this
    exact this
theorem ok_take {n : Nat} {ts : List Tie} (ok : ∀ t ∈ ts, TieOk n t) (k : Nat) : ∀ t ∈ ts.take k, TieOk n t := fun t ht => ok t (List.mem_of_mem_take ht)
theorem NumAt.swap {n : Nat} {ts : List Tie} {v : V} (ok : ∀ t ∈ ts, TieOk n t) (h : NumAt ts n v) : NumAt (ts.map swapT) n v := by
  rcases h with ⟨e, h⟩ | ⟨k, e, h1, h2, h3⟩
  · exact .inl ⟨e, (swap_calm ok).mpr h⟩
  · refine .inr ⟨k, e, by rw [List.length_map]; exact h1, ?_, ?_⟩
    · rw [← List.map_take]
      exact (swap_calm (ok_take ok k)).mpr h2
    · rw [← List.map_take]
      exact Classical.byContradiction fun z => (swap_calm (ok_take ok (k + 1))).mp z h3
theorem FirstAt.cut {n k j : Nat} {ts : List Tie} (h : FirstAt ts n k) (hj : k < j) : FirstAt (ts.take j) n k := by
  obtain ⟨h1, h2, h3⟩ := h
  refine ⟨by rw [List.length_take]; omega, ?_, ?_⟩
  · rw [List.take_take, Nat.min_eq_left (by omega)]
    exact h2
  · rw [List.take_take, Nat.min_eq_left (by omega)]
    exact h3
/-- a place more, and a friendly tie to it before all -/
theorem ok_more {n : Nat} {ts : List Tie} (ok : ∀ t ∈ ts, TieOk n t) (n1 : 1 ≤ n) : ∀ t ∈ (⟨n, 0, false⟩ : Tie) :: ts, TieOk (n + 1 : Nat) t := fun t ht => by
  rcases List.mem_cons.mp ht with z | z
  · rw [z]
    exact ⟨show (0 : Int) ≤ n by omega, show (n : Int) < (n + 1 : Nat) by omega, show (0 : Int) ≤ 0 by omega, show (0 : Int) < (n + 1 : Nat) by omega, show (n : Int) ≠ 0 by omega⟩
  · obtain ⟨a, b, c, d, e⟩ := ok t z
    exact ⟨a, by omega, c, by omega, e⟩
theorem more_calm {n : Nat} {ts : List Tie} (ok : ∀ t ∈ ts, TieOk n t) (n1 : 1 ≤ n) : ¬ Odd ((⟨n, 0, false⟩ : Tie) :: ts) (n + 1) ↔ ¬ Odd ts n := by
  rw [calm_iff (ok_more ok n1), calm_iff ok]
  constructor
  · rintro ⟨s, hs⟩
    exact ⟨s, fun t ht => hs t (List.mem_cons_of_mem _ ht)⟩
  · rintro ⟨s, hs⟩
    refine ⟨fun i => if i = (n : Int) then s 0 else s i, fun t ht => ?_⟩
    rcases List.mem_cons.mp ht with z | z
    · rw [z]
      show ((if (n : Int) = (n : Int) then s 0 else s n) ^^ (if (0 : Int) = (n : Int) then s 0 else s 0)) = false
      rw [if_pos rfl, if_neg (by omega), Bool.xor_self]
    · have o := ok t z
      have := hs t z
      show ((if t.one = (n : Int) then s 0 else s t.one) ^^ (if t.other = (n : Int) then s 0 else s t.other)) = t.foe
      rw [if_neg (by have := o.2.1; omega), if_neg (by have := o.2.2.2.1; omega)]
      exact this
theorem FirstAt.more {n k : Nat} {ts : List Tie} (ok : ∀ t ∈ ts, TieOk n t) (n1 : 1 ≤ n) (h : FirstAt ts n k) : FirstAt ((⟨n, 0, false⟩ : Tie) :: ts) (n + 1) (k + 1) := by
  obtain ⟨h1, h2, h3⟩ := h
  refine ⟨by rw [List.length_cons]; omega, ?_, ?_⟩
  · rw [List.take_succ_cons]
    exact (more_calm (ok_take ok k) n1).mpr h2
  · rw [List.take_succ_cons]
    exact Classical.byContradiction fun z => (more_calm (ok_take ok (k + 1)) n1).mp z h3
theorem GS.add {ts : List Tie} {n : Nat} {g s : Int → Int} (h : GS ts n g s true) {t : Tie} (e : g t.one = g t.other) (y : (bit (s t.one) ^^ bit (s t.other)) = t.foe) : GS (ts ++ [t]) n g s true := by
  refine ⟨fun i a b => (h.rp i a b).mono fun x hx => List.mem_append_left _ hx, h.le, h.bn, fun x hx => ?_, fun _ x hx => ?_, fun z => by cases z⟩
  · rcases List.mem_append.mp hx with z | z
    · exact h.eq x z
    · rw [List.mem_singleton.mp z]
      exact e
  · rcases List.mem_append.mp hx with z | z
    · exact h.yes rfl x z
    · rw [List.mem_singleton.mp z]
      exact y
theorem kv_all {H : Hp} : ∀ {us : List V} {ts : List Tie}, Paired (TieV H) us ts → Paired (KV H) us (ts.zip (List.replicate ts.length true))
  | _, _, .nil => .nil
  | _, _, .cons r t => .cons (.inl ⟨rfl, r⟩) (kv_all t)
theorem Paired.cut {α β : Type} {F : α → β → Prop} : ∀ {l : List α} {m : List β} (k : Nat), Paired F l m → Paired F (l.take k) (m.take k)
  | _, _, 0, _ => .nil
  | _, _, _ + 1, .nil => .nil
  | _, _, k + 1, .cons r t => .cons r (Paired.cut k t)
/-! ### k35: what the law draws -/
def spMany35 (K : PySem.W.Frag) : Sp := fun vs H Q _ => ∃ (sc : Addr) (ns : List Int), vs = [.ref sc] ∧ SqL K H sc (ns.map V.int) ∧ ∀ r (n : Nat) (c : Int) (b : Bool) H', Same H H' → H' r = some (.tup [.int n, .int c, .bl b]) → 1 ≤ n → n ≤ 40 → 0 ≤ c → c ≤ 120 → (n = 1 → c = 0) → Q (.ref r) H'
def PrV (n : Nat) (H : Hp) (v : V) : Prop := ∃ a x y, v = .ref a ∧ H a = some (.tup [.int x, .int y]) ∧ TieOk n ⟨x, y, false⟩
theorem PrV.tk {n : Nat} {H H' : Hp} (k : Tk H H') {v : V} (h : PrV n H v) : PrV n H' v := by
  obtain ⟨a, x, y, e, h1, h2⟩ := h
  exact ⟨a, x, y, e, k _ _ h1, h2⟩
def spPair (K : PySem.W.Frag) : Sp := fun vs H Q _ => ∃ (sc L : Addr) (ns : List Int) (k : Int) (n : Nat) (us : List V) (b : Bool), vs = [.ref sc, .int k, .int n, .ref L, .bl b] ∧ SqL K H sc (ns.map V.int) ∧ 0 ≤ k ∧ k ≤ 203 ∧ 2 ≤ n ∧ n ≤ 40 ∧ H L = some (.lst us) ∧ us.length ≤ 120 ∧ (∀ u ∈ us, PrV n H u) ∧ ∀ v H', Same H H' → PrV n H' v → Q v H'
section
variable {P : Program} {w : World} {K : PySem.W.Frag} {mg : Str → Option Value} {base : Heap}
theorem ok_l_many {f : Addr} {fd : FuncData} (F : Fun K "_law_many" "_law_many" s_l_many f fd) (M : Free mg) (D_l_cell_at : Df P w K mg base 1 "_law_cell_at" ["_law_script", "_law_k"] (spCell K)) (D_l_draw : Df P w K mg base 1 "_law_draw" ["_law_well", "_law_many_here"] spDraw) : FnOk P w K mg base CX0 2 f fd ["_law_script"] (spMany35 K) := by
  obtain ⟨f_l_cell_at, fd_l_cell_at, G_l_cell_at, g_l_cell_at, k_l_cell_at, b_l_cell_at⟩ := D_l_cell_at
  obtain ⟨f_l_draw, fd_l_draw, G_l_draw, g_l_draw, k_l_draw, b_l_draw⟩ := D_l_draw
  refine F.ok sc_l_many (fun vs H Q E h => ?_) (fun cdv A outer s H vs Q E hr h => ?_)
  · obtain ⟨sc, ns, rfl, _⟩ := h
    rfl
  · obtain ⟨sc, ns, rfl, hS, q⟩ := h
    refine ⟨_, (pss_cons (ps_set (i := 1) sc_l_many.nd rfl (.inl rfl) (pe_lst (pa_cons (pe_call G_l_cell_at (hr.mono (by decide)) (by rfl) g_l_cell_at k_l_cell_at b_l_cell_at .nil pass0 (pa_cons (pv 0) (pa_cons pe_int pa_nil))) (pa_cons pe_int pa_nil))))
      (Evl.pss_cut (ps_set (i := 2) sc_l_many.nd rfl (.inl rfl) (pe_callTy call_int1 (by rfl) M.int (by decide +kernel) (pa_cons (pe_cmpR op_eq (pe_call G_l_draw (hr.mono (by decide)) (by rfl) g_l_draw k_l_draw b_l_draw .nil pass0 (pa_cons (pv 1) (pa_cons pe_int pa_nil))) pe_int (nomark _)) pa_nil)))
      (Evl.pss_cut (ps_set (i := 3) sc_l_many.nd rfl (.inl rfl) (pe_op op_add pe_int (pe_call G_l_draw (hr.mono (by decide)) (by rfl) g_l_draw k_l_draw b_l_draw .nil pass0 (pa_cons (pv 1) (pa_cons (pe_ix ix_list (pe_lst (pa_cons pe_int (pa_cons pe_int pa_nil))) (pv 2) (fun _ _ => rfl)) pa_nil)))))
      (Evl.pss_cut (ps_set (i := 4) sc_l_many.nd rfl (.inl rfl) (pe_op op_mul (pe_call G_l_draw (hr.mono (by decide)) (by rfl) g_l_draw k_l_draw b_l_draw .nil pass0 (pa_cons (pv 1) (pa_cons (pe_ix ix_list (pe_lst (pa_cons pe_int (pa_cons pe_int pa_nil))) (pv 2) (fun _ _ => rfl)) pa_nil))) (pe_callTy call_int1 (by rfl) M.int (by decide +kernel) (pa_cons (pe_cmpR op_gt (pv 3) pe_int (nomark _)) pa_nil))))
      (pss_one (ps_ret (pe_tup (pa_cons (pv 3) (pa_cons (pv 4) (pa_cons (pe_cmpR op_eq (pe_call G_l_draw (hr.mono (by decide)) (by rfl) g_l_draw k_l_draw b_l_draw .nil pass0 (pa_cons (pv 1) (pa_cons pe_int pa_nil))) pe_int (nomark _)) pa_nil)))))))))), ?_⟩
    refine ⟨.ref sc, rfl, sc, ns, 0, rfl, hS, by decide, fun cell => ⟨by show 2 ≤ sizeLine; decide, fun d nd => ?_⟩⟩
    refine ⟨fun σ' H' => ∃ g : Bool, σ' = [some (.ref sc), some (.ref d), some (.int (if g = true then 1 else 0)), none, none] ∧ Well H' d 1 ∧ Same H H', ?_, ?_⟩
    · exact ⟨.ref d, rfl, d, 0, 8, rfl, ⟨cell, 0, upd_same, by decide, by decide⟩, by decide, by decide, by decide, fun v H1 a1 b1 W1 K1 => ⟨rfl, .inr ⟨_, rfl, _, rfl, W1, K1.same (same_new nd) nd⟩⟩⟩
    rintro σ' H1 ⟨g, rfl, W1, s1⟩
    refine ⟨fun σ' H' => ∃ n : Nat, σ' = [some (.ref sc), some (.ref d), some (.int (if g = true then 1 else 0)), some (.int n), none] ∧ 1 ≤ n ∧ n ≤ 40 ∧ Well H' d 2 ∧ Same H H', ?_, ?_⟩
    · refine ⟨.ref d, rfl, by show 2 ≤ sizeLine; decide, fun p np => ⟨_, rfl, p, _, _, _, rfl, rfl, SqL.of upd_same, pick2 _ _ _, ?_⟩⟩
      have W2 := W1.same (same_new (o := .lst [.int 6, .int 40]) np)
      have s2 := s1.trans (same_new (o := .lst [.int 6, .int 40]) np)
      cases g with
      | true =>
        refine ⟨d, 1, 40, rfl, W2, by decide, by decide, by decide, fun v H2 a2 b2 W2 K2 => ⟨1, v, rfl, rfl, (1 + v).toNat, ?_, by omega, by omega, W2, K2.same s2 nd⟩⟩
        rw [show (((1 + v).toNat : Nat) : Int) = 1 + v from by omega]
        rfl
      | false =>
        refine ⟨d, 1, 6, rfl, W2, by decide, by decide, by decide, fun v H2 a2 b2 W2 K2 => ⟨1, v, rfl, rfl, (1 + v).toNat, ?_, by omega, by omega, W2, K2.same s2 nd⟩⟩
        rw [show (((1 + v).toNat : Nat) : Int) = 1 + v from by omega]
        rfl
    rintro σ' H2 ⟨n, rfl, n1, n2, W2, s2⟩
    refine ⟨fun σ' H' => ∃ c : Int, σ' = [some (.ref sc), some (.ref d), some (.int (if g = true then 1 else 0)), some (.int n), some (.int c)] ∧ 0 ≤ c ∧ c ≤ 120 ∧ (n = 1 → c = 0) ∧ Well H' d 3 ∧ Same H H', ?_, ?_⟩
    · refine ⟨.ref d, rfl, by show 2 ≤ sizeLine; decide, fun p np => ⟨_, rfl, p, _, _, _, rfl, rfl, SqL.of upd_same, pick2 _ _ _, ?_⟩⟩
      have W3 := W2.same (same_new (o := .lst [.int 13, .int 121]) np)
      have s3 := s2.trans (same_new (o := .lst [.int 13, .int 121]) np)
      have fin : ∀ v : Int, 0 ≤ v → v < 121 → 0 ≤ v * (if decide ((1 : Int) < n) = true then 1 else 0) ∧ v * (if decide ((1 : Int) < n) = true then 1 else 0) ≤ 120 ∧ (n = 1 → v * (if decide ((1 : Int) < n) = true then 1 else 0) = 0) := fun v a b => by
        by_cases h : (1 : Int) < n
        · rw [decide_eq_true h, if_pos rfl, Int.mul_one]
          exact ⟨a, by omega, fun z => by omega⟩
        · rw [decide_eq_false h, if_neg (by simp), Int.mul_zero]
          exact ⟨by decide, by decide, fun _ => rfl⟩
      cases g with
      | true => exact ⟨d, 2, 121, rfl, W3, by decide, by decide, by decide, fun v H3 a3 b3 W3 K3 => ⟨.int n, rfl, n, 1, rfl, rfl, .inr ⟨_, rfl, v, _, rfl, rfl, .inr ⟨by split <;> omega, by split <;> omega⟩, _, rfl, (fin v a3 b3).1, (fin v a3 b3).2.1, (fin v a3 b3).2.2, W3, K3.same s3 nd⟩⟩⟩
      | false => exact ⟨d, 2, 13, rfl, W3, by decide, by decide, by decide, fun v H3 a3 b3 W3 K3 => ⟨.int n, rfl, n, 1, rfl, rfl, .inr ⟨_, rfl, v, _, rfl, rfl, .inr ⟨by split <;> omega, by split <;> omega⟩, _, rfl, (fin v a3 (by omega)).1, (fin v a3 (by omega)).2.1, (fin v a3 (by omega)).2.2, W3, K3.same s3 nd⟩⟩⟩
    rintro σ' H3 ⟨c, rfl, c0, c1, cn, W3, s3⟩
    refine ⟨.int n, rfl, .int c, rfl, .ref d, rfl, d, 3, 4, rfl, W3, by decide, by decide, by decide, fun v H4 a4 b4 W4 K4 => ⟨rfl, by show 3 ≤ sizeLine; decide, fun r nr => ?_⟩⟩
    exact q r n c _ _ ((K4.same s3 nd).trans (same_new nr)) upd_same n1 n2 c0 c1 cn
theorem ok_l_pair {f : Addr} {fd : FuncData} (F : Fun K "_law_pair" "_law_pair" s_l_pair f fd) (M : Free mg) (D_l_cell_at : Df P w K mg base 1 "_law_cell_at" ["_law_script", "_law_k"] (spCell K)) (D_l_draw : Df P w K mg base 1 "_law_draw" ["_law_well", "_law_many_here"] spDraw) : FnOk P w K mg base CX0 2 f fd ["_law_script", "_law_k", "_law_many_here", "_law_pairs", "_law_goes_round"] (spPair K) := by
  obtain ⟨f_l_cell_at, fd_l_cell_at, G_l_cell_at, g_l_cell_at, k_l_cell_at, b_l_cell_at⟩ := D_l_cell_at
  obtain ⟨f_l_draw, fd_l_draw, G_l_draw, g_l_draw, k_l_draw, b_l_draw⟩ := D_l_draw
  refine F.ok sc_l_pair (fun vs H Q E h => ?_) (fun cdv A outer s H vs Q E hr h => ?_)
  · obtain ⟨sc, L, ns, k, n, us, b, rfl, _⟩ := h
    rfl
  · obtain ⟨sc, L, ns, k, n, us, b, rfl, hS, k0, k1, n1, n2, hL, few, hp, q⟩ := h
    refine ⟨_, (pss_cons (ps_set (i := 5) sc_l_pair.nd rfl (.inl rfl) (pe_lst (pa_cons (pe_call G_l_cell_at (hr.mono (by decide)) (by rfl) g_l_cell_at k_l_cell_at b_l_cell_at .nil pass0 (pa_cons (pv 0) (pa_cons (pe_op op_add pe_int (pe_op op_mod (pv 1) pe_int)) pa_nil))) (pa_cons (pe_op op_add (pe_op op_mul pe_int (pv 1)) pe_int) pa_nil))))
      (Evl.pss_cut (ps_if (pt_cmpR op_gt (pv 1) pe_int (nomark _))
        (pss_one (ps_set (i := 5) sc_l_pair.nd rfl (.inl rfl) (pe_lst (pa_cons (pe_op op_add (pe_op op_fdivW (pe_call G_l_cell_at (hr.mono (by decide)) (by rfl) g_l_cell_at k_l_cell_at b_l_cell_at .nil pass0 (pa_cons (pv 0) (pa_cons (pe_op op_add pe_int (pe_op op_mod (pv 1) pe_int)) pa_nil))) (pe_op op_pow pe_int pe_int)) (pv 1)) (pa_cons (pe_op op_add (pe_op op_mul pe_int (pv 1)) pe_int) pa_nil)))))
        pss_nil)
      (pss_cons (ps_set (i := 6) sc_l_pair.nd rfl (.inl rfl) (pe_call G_l_draw (hr.mono (by decide)) (by rfl) g_l_draw k_l_draw b_l_draw .nil pass0 (pa_cons (pv 5) (pa_cons pe_int pa_nil))))
      (pss_cons (ps_set (i := 7) sc_l_pair.nd rfl (.inl rfl) (pe_call G_l_draw (hr.mono (by decide)) (by rfl) g_l_draw k_l_draw b_l_draw .nil pass0 (pa_cons (pv 5) (pa_cons (pv 2) pa_nil))))
      (Evl.pss_cut (ps_set (i := 8) sc_l_pair.nd rfl (.inl rfl) (pe_op op_mod (pe_op op_add (pe_op op_add (pv 7) pe_int) (pe_call G_l_draw (hr.mono (by decide)) (by rfl) g_l_draw k_l_draw b_l_draw .nil pass0 (pa_cons (pv 5) (pa_cons (pe_op op_sub (pv 2) pe_int) pa_nil)))) (pv 2)))
      (Evl.pss_cut (ps_if (PW.pt (pw_and (pt_val (pv 4)) (pw_and1 (pt_cmpR op_gt (pv 6) pe_int (nomark _)))))
        (pss_cons (ps_set (i := 7) sc_l_pair.nd rfl (.inl rfl) (pe_op op_mod (pe_op op_add (pv 1) (pe_call G_l_draw (hr.mono (by decide)) (by rfl) g_l_draw k_l_draw b_l_draw .nil pass0 (pa_cons (pv 5) (pa_cons pe_int pa_nil)))) (pv 2)))
        (pss_one (ps_set (i := 8) sc_l_pair.nd rfl (.inl rfl) (pe_op op_mod (pe_op op_add (pv 7) pe_int) (pv 2)))))
        pss_nil)
      (Evl.pss_cut (ps_if (PW.pt (pw_and (pt_cmpR op_eq (pv 6) pe_int (nomark _)) (pw_and1 (pt_cmpR (op_neE hr.units0) (pv 3) (pe_lst pa_nil) (nomark _)))))
        (pss_one (ps_asg (pe_ix ix_list (pv 3) (pe_call G_l_draw (hr.mono (by decide)) (by rfl) g_l_draw k_l_draw b_l_draw .nil pass0 (pa_cons (pv 5) (pa_cons (pe_callB call_len_seq (by rfl) M.len PySem.boot_len (pa_cons (pv 3) pa_nil)) pa_nil))) (fun _ _ => rfl)) (pg_tup rfl (pgs_cons (pg_name (i := 7) sc_l_pair.nd rfl (.inl rfl)) (pgs_cons (pg_name (i := 8) sc_l_pair.nd rfl (.inl rfl)) pgs_nil)))))
        pss_nil)
      (pss_one (ps_ret (pe_ix ix_list (pe_lst (pa_cons (pe_tup (pa_cons (pv 7) (pa_cons (pv 8) pa_nil))) (pa_cons (pe_tup (pa_cons (pv 8) (pa_cons (pv 7) pa_nil))) pa_nil))) (pe_call G_l_draw (hr.mono (by decide)) (by rfl) g_l_draw k_l_draw b_l_draw .nil pass0 (pa_cons (pv 5) (pa_cons pe_int pa_nil))) (fun _ _ => rfl))))))))))), ?_⟩
    refine ⟨.ref sc, rfl, .int k, rfl, k, 62, rfl, rfl, (show (0 : Int) < 62 by decide), 1, _, rfl, rfl, sc, ns, _, rfl, hS, by have := (mod_rng (a := k) (m := 62) (by decide)).1; omega, fun cell => ⟨.int k, rfl, 90, k, rfl, rfl, .inl ⟨by decide, by decide⟩, _, 11, rfl, rfl, by show 2 ≤ sizeLine; decide, fun d nd => ?_⟩⟩
    refine ⟨fun σ' H' => ∃ d : Addr, σ' = [some (.ref sc), some (.int k), some (.int n), some (.ref L), some (.bl b), some (.ref d), none, none, none] ∧ H d = none ∧ Well H' d 20000 ∧ Same H H', ?_, ?_⟩
    · refine ⟨.int k, rfl, k, 61, rfl, rfl, _, rfl, ?_⟩
      have s1 := same_new (o := .lst [.int cell, .int (90 * k + 11)]) nd
      refine ite2 (fun _ => ?_) (fun _ => ⟨d, rfl, nd, ⟨cell, 90 * k + 11, upd_same, by omega, by omega⟩, s1⟩)
      refine ⟨.ref sc, rfl, .int k, rfl, k, 62, rfl, rfl, (show (0 : Int) < 62 by decide), 1, _, rfl, rfl, sc, ns, _, rfl, s1.seq hS, by have := (mod_rng (a := k) (m := 62) (by decide)).1; omega, fun cell2 => ?_⟩
      refine ⟨10, 18, rfl, rfl, ⟨by decide, by decide, by decide⟩, _, _, rfl, rfl, wide_div (b := 61) (by decide) (by decide) (by decide) (by decide), .int k, rfl, _, k, rfl, rfl, .int k, rfl, 90, k, rfl, rfl, .inl ⟨by decide, by decide⟩, _, 47, rfl, rfl, by show 2 ≤ sizeLine; decide, fun d2 nd2 => ?_⟩
      exact ⟨d2, rfl, s1.free nd2, ⟨_, 90 * k + 47, upd_same, by omega, by omega⟩, s1.trans (same_new nd2)⟩
    clear nd d cell
    rintro σ' H1 ⟨d, rfl, nd, W1, s1⟩
    refine ⟨.ref d, rfl, d, _, 6, rfl, W1, by decide, by decide, by decide, fun way H2 a2 b2 W2 K2 => ?_⟩
    have s2 := K2.same s1 nd
    refine ⟨.ref d, rfl, .int n, rfl, d, _, n, rfl, W2, by decide, by omega, by omega, fun one H3 a3 b3 W3 K3 => ?_⟩
    have s3 := K3.same s2 nd
    refine ⟨fun σ' H' => ∃ oth : Int, σ' = [some (.ref sc), some (.int k), some (.int n), some (.ref L), some (.bl b), some (.ref d), some (.int way), some (.int one), some (.int oth)] ∧ TieOk n ⟨one, oth, false⟩ ∧ Well H' d 20003 ∧ Same H H', ?_, ?_⟩
    · exact ⟨.int one, rfl, one, 1, rfl, rfl, .ref d, rfl, .int n, rfl, n, 1, rfl, rfl, d, _, (n : Int) - 1, rfl, W3, by decide, by omega, by omega, fun v H4 a4 b4 W4 K4 => ⟨one + 1, v, rfl, rfl, .int n, rfl, _, n, rfl, rfl, show (0 : Int) < n by omega, _, rfl, ⟨a3, b3, (mod_rng (by omega)).1, (mod_rng (by omega)).2, other_ne a3 b3 a4 b4⟩, W4, K4.same s3 nd⟩⟩
    clear W1 s1 W2 s2 K2 W3 s3 K3 H1 H2 H3
    rintro σ' H1 ⟨oth, rfl, okt, W1, s1⟩
    refine ⟨fun σ' H' => ∃ one oth : Int, σ' = [some (.ref sc), some (.int k), some (.int n), some (.ref L), some (.bl b), some (.ref d), some (.int way), some (.int one), some (.int oth)] ∧ TieOk n ⟨one, oth, false⟩ ∧ Well H' d 20004 ∧ Same H H', ?_, ?_⟩
    · have wk : Well H1 d 20004 := by
        obtain ⟨x, c, e1, e2, e3⟩ := W1
        exact ⟨x, c, e1, e2, by omega⟩
      refine ⟨.bl b, rfl, _, rfl, ?_⟩
      cases b
      · exact ⟨_, _, rfl, okt, wk, s1⟩
      refine ⟨.int way, rfl, way, 1, rfl, rfl, _, rfl, ?_⟩
      refine ite2 (fun _ => ?_) (fun _ => ⟨_, _, rfl, okt, wk, s1⟩)
      refine ⟨.int k, rfl, .ref d, rfl, d, _, 2, rfl, W1, by decide, by decide, by decide, fun v H2 a2 b2 W2 K2 => ⟨k, v, rfl, rfl, .int n, rfl, _, n, rfl, rfl, show (0 : Int) < n by omega, ?_⟩⟩
      have m1 := mod_rng (a := k + v) (m := n) (by omega)
      refine ⟨_, rfl, _, 1, rfl, rfl, .int n, rfl, _, n, rfl, rfl, show (0 : Int) < n by omega, _, _, rfl, ⟨m1.1, m1.2, (mod_rng (by omega)).1, (mod_rng (by omega)).2, ?_⟩, W2, K2.same s1 nd⟩
      have e := other_ne (n := n) (a := (k + v) % n) (b := 0) m1.1 m1.2 (by omega) (by omega)
      rw [Int.add_zero] at e
      exact e
    clear W1 s1 H1 okt oth
    rintro σ' H1 ⟨one, oth, rfl, okt, W1, s1⟩
    refine ⟨fun σ' H' => ∃ one oth : Int, σ' = [some (.ref sc), some (.int k), some (.int n), some (.ref L), some (.bl b), some (.ref d), some (.int way), some (.int one), some (.int oth)] ∧ TieOk n ⟨one, oth, false⟩ ∧ Well H' d 20005 ∧ Same H H', ?_, ?_⟩
    · have wk : ∀ {H' : Hp}, Well H' d 20004 → Well H' d 20005 := fun ⟨x, c, e1, e2, e3⟩ => ⟨x, c, e1, e2, by omega⟩
      refine ⟨.int way, rfl, rfl, _, rfl, ?_⟩
      refine ite2 (fun _ => ?_) (fun _ => ⟨_, _, rfl, okt, wk W1, s1⟩)
      refine ⟨.ref L, rfl, Nat.zero_le _, fun Z nZ => ⟨L, Z, us, rfl, rfl, SqL.of (same_new nZ _ _ (s1 _ _ hL)), SqL.of upd_same, _, rfl, ?_⟩⟩
      have s2 := s1.trans (same_new (o := .lst []) nZ)
      have W2 := W1.same (same_new (o := .lst []) nZ)
      generalize upd H1 Z (.lst []) = H2 at s2 W2
      by_cases hu : us = []
      · subst hu
        exact ⟨_, _, rfl, okt, wk W2, s2⟩
      have hpos : 0 < us.length := List.length_pos_iff.mpr hu
      rw [show (!us.isEmpty) = true from by cases us; exact absurd rfl hu; rfl]
      refine ⟨.ref L, rfl, .ref d, rfl, .ref L, rfl, L, us, rfl, .inl (SqL.of (s2 _ _ hL)), d, _, (us.length : Int), rfl, W2, by decide, by omega, by omega, fun v H3 a3 b3 W3 K3 => ?_⟩
      have s3 := K3.same s2 nd
      have hvu : v.toNat < us.length := by omega
      obtain ⟨a, x, y, e, h1, h2⟩ := (hp _ (List.getElem_mem hvu)).tk (Same.tk s3)
      refine ⟨L, us, v, .ref a, rfl, rfl, SqL.of (s3 _ _ hL), atI_of a3 (by rw [List.getElem?_eq_getElem hvu, e]), a, _, rfl, SqT.of h1, rfl, _, _, rfl, _, _, rfl, rfl, ?_⟩
      exact ⟨x, y, rfl, h2, W3, s3⟩
    clear W1 s1 H1 okt oth
    rintro σ' H1 ⟨one, oth, rfl, okt, W1, s1⟩
    refine ⟨_, rfl, _, rfl, by show 2 ≤ sizeLine; decide, fun A1 m1 => ⟨_, rfl, _, rfl, by show 2 ≤ sizeLine; decide, fun A2 m2 => ⟨by show 2 ≤ sizeLine; decide, fun B nB => ?_⟩⟩⟩
    have e1 := same_new (o := .tup [.int one, .int oth]) m1
    have e2 := same_new (o := .tup [.int oth, .int one]) m2
    have e3 := same_new (o := .lst [.ref A1, .ref A2]) nB
    have h1 := e3 _ _ (e2 _ _ (upd_same (H := H1) (a := A1) (o := .tup [.int one, .int oth])))
    have h2 := e3 _ _ (upd_same (H := upd H1 A1 (.tup [.int one, .int oth])) (a := A2) (o := .tup [.int oth, .int one]))
    have h3 := upd_same (H := upd (upd H1 A1 (.tup [.int one, .int oth])) A2 (.tup [.int oth, .int one])) (a := B) (o := .lst [.ref A1, .ref A2])
    have s4 := ((s1.trans e1).trans e2).trans e3
    have W4 := W1.same ((e1.trans e2).trans e3)
    have dB : B ≠ d := by
      obtain ⟨x, c, e, _⟩ := W1
      exact (ne_of_none ((e1.trans e2) _ _ e) nB).symm
    generalize upd (upd (upd H1 A1 (.tup [.int one, .int oth])) A2 (.tup [.int oth, .int one])) B (.lst [.ref A1, .ref A2]) = H4 at h1 h2 h3 s4 W4
    refine ⟨.ref d, rfl, d, _, 2, rfl, W4, by decide, by decide, by decide, fun v H5 a5 b5 W5 K5 => ?_⟩
    have s5 := K5.same s4 nd
    have dd : ∀ {x : Addr} {xs : List V}, H4 x = some (.tup xs) → H5 x = some (.tup xs) := fun {x xs} e => K5 x _ (by
      obtain ⟨z, c, e2, _⟩ := W4
      exact ne_of e e2 (by intro z; cases z)) e
    have h01 : v = 0 ∨ v = 1 := by omega
    rcases h01 with rfl | rfl
    · exact ⟨B, _, 0, .ref A1, rfl, rfl, SqL.of (K5 _ _ dB h3), rfl, q _ _ s5 ⟨A1, one, oth, rfl, dd h1, okt⟩⟩
    · exact ⟨B, _, 1, .ref A2, rfl, rfl, SqL.of (K5 _ _ dB h3), rfl, q _ _ s5 ⟨A2, oth, one, rfl, dd h2, okt.2.2.1, okt.2.2.2.1, okt.1, okt.2.1, Ne.symm okt.2.2.2.2⟩⟩
end
theorem paired_set {α β : Type} {F : α → β → Prop} : ∀ {l : List α} {m : List β} {j : Nat} {x : α} {y : β}, Paired F l m → F x y → Paired F (l.set j x) (m.set j y)
  | _, _, _, _, _, .nil, _ => by simp; exact .nil
  | _, _, 0, _, _, .cons _ t, h => .cons h t
  | _, _, j + 1, _, _, .cons r t, h => .cons r (paired_set (j := j) t h)
/-! ### k34: ties true to sides, and one that is not (mathematics) -/
theorem true_calm {n : Nat} {ts : List Tie} {sd : Int → Bool} (h : ∀ t ∈ ts, (sd t.one ^^ sd t.other) = t.foe) : ¬ Odd ts n := by
  rintro ⟨x, _, r⟩
  have := sides_walk h r
  rw [Bool.xor_self] at this
  cases this
theorem true_first {n k : Nat} {ts us : List Tie} {sd : Int → Bool} {t : Tie} (h : ∀ t ∈ ts, (sd t.one ^^ sd t.other) = t.foe) (okt : TieOk n t) (rch : Rch ts t.one t.other) (hf : t.foe = !(sd t.one ^^ sd t.other)) (hk : k < us.length) (e : us.take (k + 1) = ts ++ [t]) (e' : us.take k = ts) : FirstAt us n k := by
  refine ⟨hk, by rw [e']; exact true_calm h, ?_⟩
  rw [e]
  obtain ⟨p, rp⟩ := rch
  have hp := sides_walk h rp
  refine ⟨t.one, ⟨okt.1, okt.2.1⟩, ?_⟩
  have r1 : RP (ts ++ [t]) t.one t.other p := rp.mono fun x hx => List.mem_append_left _ hx
  have r2 : RP (ts ++ [t]) t.other t.one t.foe := RP.one ⟨t, by simp, rfl, .inr ⟨rfl, rfl⟩⟩
  have r3 := r1.trans r2
  rw [hf, ← hp, show ((sd t.one ^^ sd t.other) ^^ !(sd t.one ^^ sd t.other)) = true from by cases (sd t.one ^^ sd t.other) <;> rfl] at r3
  exact r3
def ringD (k : Nat) (qs ms : List Int) : PyData := .tuple [.int k, .tuple [.tuple (qs.map PyData.int), .tuple (ms.map PyData.int)]]
/-- what first_broken tells of a web -/
def FBAt (H : Hp) (v : V) (n k : Nat) (ts : List Tie) (qs ms : List Int) : Prop := ∃ (r rr a b : Addr) (t : Tie), v = .ref r ∧ ts[k]? = some t ∧ RingN n (ts.take k) (List.replicate k true) t qs ms ∧ (∃ ns, ms = ns ++ [(k : Int)] ∧ Exa (nN (ts.take k) (knT (List.replicate k true) true)) t.one t.other qs ns) ∧ H r = some (.tup [.int k, .ref rr]) ∧ H rr = some (.tup [.ref a, .ref b]) ∧ H a = some (.tup (qs.map V.int)) ∧ H b = some (.tup (ms.map V.int))
theorem FBAt.tk {H H' : Hp} (kk : Tk H H') {v : V} {n k : Nat} {ts : List Tie} {qs ms : List Int} (h : FBAt H v n k ts qs ms) : FBAt H' v n k ts qs ms := by
  obtain ⟨r, rr, a, b, t, e, h1, h2, h3, h4, h5, h6, h7⟩ := h
  exact ⟨r, rr, a, b, t, e, h1, h2, h3, kk _ _ h4, kk _ _ h5, kk _ _ h6, kk _ _ h7⟩
theorem FBAt.one {H H' : Hp} {v v' : V} {n k : Nat} {ts : List Tie} {qs ms qs' ms' : List Int} (h : FBAt H v n k ts qs ms) (h' : FBAt H' v' n k ts qs' ms') : qs = qs' ∧ ms = ms' := by
  obtain ⟨r, rr, a, b, t, e, h1, h2, ⟨ns, e1, h3⟩, _⟩ := h
  obtain ⟨r', rr', a', b', t', e', h1', h2', ⟨ns', e1', h3'⟩, _⟩ := h'
  rw [h1] at h1'
  cases h1'
  obtain ⟨f1, f2⟩ := h3.one h3'
  rw [e1, e1', f1, f2]
  exact ⟨rfl, rfl⟩
theorem dp_nums' {K : PySem.W.Frag} {H : Hp} : ∀ xs : List Int, DpAll K H (xs.map V.int) (xs.map PyData.int)
  | [] => .nil
  | x :: xs => .cons (.int _) (dp_nums' xs)
theorem FBAt.dp {K : PySem.W.Frag} {H : Hp} {v : V} {n k : Nat} {ts : List Tie} {qs ms : List Int} (h : FBAt H v n k ts qs ms) : Dp K H v (ringD k qs ms) := by
  obtain ⟨r, rr, a, b, t, rfl, h1, h2, h3, h4, h5, h6, h7⟩ := h
  exact .tup (SqT.of h4) (.cons (.int _) (.cons (.tup (SqT.of h5) (.cons (.tup (SqT.of h6) (dp_nums' qs)) (.cons (.tup (SqT.of h7) (dp_nums' ms)) .nil))) .nil))
theorem lay_ring (k : Nat) (qs ms : List Int) : (ringD k qs ms).canLay0 = true := by
  unfold ringD
  simp only [PyData.canLay0, PyData.canLayAll0, lay_ints, Bool.and_true, Bool.and_self]
theorem shaped_ring (k : Nat) (qs ms : List Int) : SeqAt.shaped (ringD k qs ms) = true := by
  have d : (ringD k qs ms).depth ≤ 4 := by
    simp only [ringD, PyData.depth, PyData.depthAll, deep_ints]
    omega
  unfold SeqAt.shaped
  rw [lay_ring]
  simp
  omega
/-! ### k34: the law's own hands -/
def spKind34 : Sp := fun vs H Q _ => ∃ (S a : Addr) (ys : List Int) (x y : Int), vs = [.ref S, .ref a] ∧ H S = some (.lst (ys.map V.int)) ∧ H a = some (.tup [.int x, .int y]) ∧ (0 ≤ x ∧ x < (ys.length : Int)) ∧ (0 ≤ y ∧ y < (ys.length : Int)) ∧ ∀ H', Same H H' → Q (.str (kindS (decide (ys.getD x.toNat 0 ≠ ys.getD y.toNat 0)))) H'
def spOther34 : Sp := fun vs H Q _ => ∃ (b : Bool), vs = [.str (kindS b)] ∧ ∀ H', Same H H' → Q (.str (kindS (!b))) H'
def spLed34 : Sp := fun vs H Q _ => ∃ (n : Nat) (L : Addr) (us : List V) (ts : List Tie), vs = [.int n, .ref L] ∧ H L = some (.lst us) ∧ Paired (TieV H) us ts ∧ WebOk n ts ∧ ∀ R (ks : List Nat) H', H R = none → Same H H' → H' R = some (.lst (ks.map fun k => V.int (k : Nat))) → ks.length ≤ 120 → (∀ k ∈ ks, ∃ t, ts[k]? = some t ∧ Rch (ts.take k) t.one t.other) → Q (.ref R) H'
def spTold34 : Sp := fun vs H Q _ => ∃ (n : Nat) (L : Addr) (us : List V) (ts ts' : List Tie) (k : Nat) (v : V) (qs ms : List Int), vs = [.int n, .ref L, .int k, v] ∧ H L = some (.lst us) ∧ Paired (TieV H) us ts ∧ ts.length ≤ 120 ∧ ts'.take (k + 1) = ts.take (k + 1) ∧ FBAt H v n k ts' qs ms ∧ ∀ H', Same H H' → Q (.bl true) H'
theorem get_ys {ys : List Int} {x : Int} (h0 : 0 ≤ x) (h1 : x < (ys.length : Int)) : atI (ys.map V.int) x = some (.int (ys.getD x.toNat 0)) := by
  refine atI_of h0 ?_
  rw [List.getElem?_map, List.getD_eq_getElem?_getD, List.getElem?_eq_getElem (by omega)]
  rfl
section
variable {P : Program} {w : World} {K : PySem.W.Frag} {mg : Str → Option Value} {base : Heap}
theorem ok_l_kind {f : Addr} {fd : FuncData} (F : Fun K "_law_kind" "_law_kind" s_l_kind f fd) (M : Free mg) : FnOk P w K mg base CX0 1 f fd ["_law_sides", "_law_pair_here"] spKind34 := by
  refine F.ok sc_l_kind (fun vs H Q E h => ?_) (fun cdv A outer s H vs Q E hr h => ?_)
  · obtain ⟨S, a, ys, x, y, rfl, _⟩ := h
    rfl
  · obtain ⟨S, a, ys, x, y, rfl, hS, ha, hx, hy, q⟩ := h
    refine ⟨_, (pss_one (ps_ret (pe_ix ix_list (pe_lst (pa_cons pe_str (pa_cons pe_str pa_nil))) (pe_callTy call_int1 (by rfl) M.int (by decide +kernel) (pa_cons (pe_cmpR op_ne (pe_ix ix_list (pv 0) (pe_ix ix_tup (pv 1) pe_int (fun _ _ => rfl)) (fun _ _ => rfl)) (pe_ix ix_list (pv 0) (pe_ix ix_tup (pv 1) pe_int (fun _ _ => rfl)) (fun _ _ => rfl)) (nomark _)) pa_nil)) (fun _ _ => rfl)))), ?_⟩
    refine ⟨by show 2 ≤ sizeLine; decide, fun p np => ?_⟩
    have ep := same_new (o := .lst [.str "friend", .str "foe"]) np
    refine ⟨.ref S, rfl, .ref a, rfl, a, _, 0, .int x, rfl, rfl, SqT.of (ep _ _ ha), rfl, S, _, x, _, rfl, rfl, SqL.of (ep _ _ hS), get_ys hx.1 hx.2, .ref S, rfl, .ref a, rfl, a, _, 1, .int y, rfl, rfl, SqT.of (ep _ _ ha), rfl, S, _, y, _, rfl, rfl, SqL.of (ep _ _ hS), get_ys hy.1 hy.2, rfl, .inr ⟨_, rfl, p, _, _, _, rfl, rfl, SqL.of upd_same, pick2 _ _ _, ?_⟩⟩
    have := q _ ep
    generalize ys.getD x.toNat 0 = X at this ⊢
    generalize ys.getD y.toNat 0 = Y at this ⊢
    rw [dec_int']
    by_cases h : X = Y
    · rw [decide_eq_true h]
      rw [show decide (X ≠ Y) = false from by simp [h]] at this
      exact this
    · rw [decide_eq_false h]
      rw [show decide (X ≠ Y) = true from by simp [h]] at this
      exact this
theorem ok_l_other {f : Addr} {fd : FuncData} (F : Fun K "_law_other" "_law_other" s_l_other f fd) (M : Free mg) : FnOk P w K mg base CX0 1 f fd ["_law_kind_here"] spOther34 := by
  refine F.ok sc_l_other (fun vs H Q E h => ?_) (fun cdv A outer s H vs Q E hr h => ?_)
  · obtain ⟨b, rfl, _⟩ := h
    rfl
  · obtain ⟨b, rfl, q⟩ := h
    refine ⟨_, (pss_one (ps_ret (pe_ix ix_list (pe_lst (pa_cons pe_str (pa_cons pe_str pa_nil))) (pe_callTy call_int1 (by rfl) M.int (by decide +kernel) (pa_cons (pe_cmpR op_eq (pv 0) pe_str (nomark _)) pa_nil)) (fun _ _ => rfl)))), ?_⟩
    refine ⟨by show 2 ≤ sizeLine; decide, fun p np => ?_⟩
    have ep := same_new (o := .lst [.str "foe", .str "friend"]) np
    refine ⟨_, rfl, rfl, .inr ⟨_, rfl, p, _, _, _, rfl, rfl, SqL.of upd_same, pick2 _ _ _, ?_⟩⟩
    have ek : decide (V.str (kindS b) = V.str "foe") = b := by cases b <;> decide +kernel
    rw [ek]
    have := q _ ep
    cases b <;> exact this
theorem ok_l_led {f : Addr} {fd : FuncData} (F : Fun K "_law_led" "_law_led" s_l_led f fd) (M : Free mg) (D_l_groups : Df P w K mg base 1 "_law_groups" ["_law_many_here", "_law_ties"] spLGroups) : FnOk P w K mg base CX0 2 f fd ["_law_many_here", "_law_ties"] spLed34 := by
  obtain ⟨f_l_groups, fd_l_groups, G_l_groups, g_l_groups, k_l_groups, b_l_groups⟩ := D_l_groups
  refine F.ok sc_l_led (fun vs H Q E h => ?_) (fun cdv A outer s H vs Q E hr h => ?_)
  · obtain ⟨n, L, us, ts, rfl, _⟩ := h
    rfl
  · obtain ⟨n, L, us, ts, rfl, hL, hp, ok, q⟩ := h
    refine ⟨_, (pss_cons (ps_set (i := 2) sc_l_led.nd rfl (.inl rfl) (pe_lst pa_nil))
      (pss_cons (ps_set (i := 3) sc_l_led.nd rfl (.inl rfl) (pe_lst pa_nil))
      (pss_cons (ps_set (i := 4) sc_l_led.nd rfl (.inl rfl) (pe_listRg rfl (by rfl) M.list (prg_1 (by rfl) M.range (pv 0))))
      (pss_cons (ps_for PassesOwn.never rfl (pi_range1 (by rfl) M.range (pa_cons (pe_callB call_len_seq (by rfl) M.len PySem.boot_len (pa_cons (pv 1) pa_nil)) pa_nil)) (pg_name (i := 5) sc_l_led.nd rfl (.inl rfl))
        (pss_one (ps_if (pt_cmpR op_eq (pe_ix ix_list (pv 4) (pe_ix ix_tup (pe_ix ix_list (pv 1) (pv 5) (fun _ _ => rfl)) pe_int (fun _ _ => rfl)) (fun _ _ => rfl)) (pe_ix ix_list (pv 4) (pe_ix ix_tup (pe_ix ix_list (pv 1) (pv 5) (fun _ _ => rfl)) pe_int (fun _ _ => rfl)) (fun _ _ => rfl)) (nomark _))
          (pss_one (ps_expr (pe_bm PySem.F.plainAttrs_list PySem.F.slot_list_append PySem.F.type_list_append mt_append (pv 2) (pa_cons (pv 5) pa_nil))))
          (pss_cons (ps_expr (pe_bm PySem.F.plainAttrs_list PySem.F.slot_list_append PySem.F.type_list_append mt_append (pv 3) (pa_cons (pe_ix ix_list (pv 1) (pv 5) (fun _ _ => rfl)) pa_nil)))
          (pss_one (ps_set (i := 4) sc_l_led.nd rfl (.inl rfl) (pe_ix ix_tup (pe_call G_l_groups (hr.mono (by decide)) (by rfl) g_l_groups k_l_groups b_l_groups .nil pass0 (pa_cons (pv 0) (pa_cons (pv 3) pa_nil))) pe_int (fun _ _ => rfl))))))))
      (pss_one (ps_ret (pv 2))))))), ?_⟩
    have n1 : 1 ≤ n := by have := ok.lo; omega
    have n40 : n ≤ 40 := by have := ok.hi; omega
    have few := ok.few
    have lu : us.length = ts.length := Paired.length hp
    refine ⟨Nat.zero_le _, fun A nA => ⟨Nat.zero_le _, fun B nB => ⟨.int n, rfl, n, rfl, RgOk.of_le (by decide) (by omega) (by decide) (by omega), fun Fi nF => ?_⟩⟩⟩
    rw [rgV_rng']
    have e1 := same_new (o := .lst []) nA
    have e2 := same_new (o := .lst []) nB
    have e3 := same_new (o := .lst (lf (fun i => i) n)) nF
    have hAB : A ≠ B := ne_of_none upd_same nB
    have nB0 : H B = none := e1.free nB
    have hA0 := e3 _ _ (e2 _ _ (upd_same (H := H) (a := A) (o := .lst [])))
    have hB0 := e3 _ _ (upd_same (H := upd H A (.lst [])) (a := B) (o := .lst []))
    have hF0 := upd_same (H := upd (upd H A (.lst [])) B (.lst [])) (a := Fi) (o := .lst (lf (fun i => i) n))
    have s0 := (e1.trans e2).trans e3
    have hFA : Fi ≠ A := (ne_of_none (e2 _ _ (upd_same (H := H) (a := A) (o := .lst []))) nF).symm
    have hFB : Fi ≠ B := (ne_of_none (upd_same (H := upd H A (.lst [])) (a := B) (o := .lst [])) nF).symm
    generalize upd (upd (upd H A (.lst [])) B (.lst [])) Fi (.lst (lf (fun i => i) n)) = H0 at hA0 hB0 hF0 s0
    refine ⟨.ref L, rfl, L, us, rfl, .inl (SqL.of (s0 _ _ hL)), _, rfl, by omega, by omega, ?_⟩
    refine for_range (lo := 0) (n := us.length) (fun i σ' H' => ∃ (y5 : Option V) (Fi : Addr) (ks : List Nat) (fs : List V) (fo : List Tie) (g sd : Int → Int) (good : Bool), σ' = [some (.int n), some (.ref L), some (.ref A), some (.ref B), some (.ref Fi), y5] ∧ H' A = some (.lst (ks.map fun k => V.int (k : Nat))) ∧ H' B = some (.lst fs) ∧ Paired (TieV H') fs fo ∧ H' Fi = some (.lst (lf g n)) ∧ Fi ≠ A ∧ Fi ≠ B ∧ (∀ t ∈ fo, t ∈ ts.take i) ∧ fo.length ≤ i ∧ ks.length ≤ i ∧ GS fo n g sd good ∧ (∀ k ∈ ks, ∃ t, ts[k]? = some t ∧ Rch (ts.take k) t.one t.other) ∧ Same H H') ⟨none, Fi, [], [], [], _, _, true, rfl, hA0, hB0, .nil, hF0, hFA, hFB, fun t ht => (by cases ht), Nat.zero_le _, Nat.zero_le _, GS.nil n, fun k hk => (by cases hk), s0⟩ ?_ ?_
    · rintro i σ' H1 hi ⟨y5, Fi, ks, fs, fo, g, sd, good, rfl, hA, hB, hf, hF, nFA, nFB, sub, lf1, lk, gs, all, s1⟩
      rw [show (0 : Int) + (i : Nat) = i from by omega]
      obtain ⟨t, et, c, ec, hc⟩ := Paired.at hp (List.getElem?_eq_getElem hi)
      have eu : us[i]? = some (.ref c) := by rw [List.getElem?_eq_getElem hi, ec]
      have o := ok.ok t (List.mem_of_getElem? et)
      have hc1 := s1 _ _ hc
      have hL1 := s1 _ _ hL
      have lfs : fs.length = fo.length := Paired.length hf
      refine ⟨.ref Fi, rfl, .ref L, rfl, .int i, rfl, L, us, i, .ref c, rfl, rfl, SqL.of hL1, atI_nat eu, c, _, 0, .int t.one, rfl, rfl, SqT.of hc1, rfl, Fi, _, t.one, _, rfl, rfl, SqL.of hF, lf_at _ o.1 o.2.1, .ref Fi, rfl, .ref L, rfl, .int i, rfl, L, us, i, .ref c, rfl, rfl, SqL.of hL1, atI_nat eu, c, _, 1, .int t.other, rfl, rfl, SqT.of hc1, rfl, Fi, _, t.other, _, rfl, rfl, SqL.of hF, lf_at _ o.2.2.1 o.2.2.2.1, rfl, _, rfl, ?_⟩
      rw [dec_int']
      have etk : ts.take (i + 1) = ts.take i ++ [t] := take_snoc et
      by_cases eg : g t.one = g t.other
      · rw [decide_eq_true eg]
        refine ⟨.ref A, rfl, .inl ⟨rfl, _, SqL.of hA⟩, .int i, rfl, A, _, _, rfl, rfl, hA, by rw [List.length_map]; exact small1000 (by omega), ?_⟩
        have tkA := tk_lst (ys := (ks.map fun k => V.int (k : Nat)) ++ [.int (i : Nat)]) hA
        refine ⟨_, Fi, ks ++ [i], fs, fo, g, sd, good, rfl, by rw [upd_same, List.map_append]; rfl, by rw [upd_ne (Ne.symm hAB)]; exact hB, ties_tk tkA hf, by rw [upd_ne nFA]; exact hF, nFA, nFB, fun x hx => by rw [etk]; exact List.mem_append_left _ (sub x hx), by omega, by simp; omega, gs, fun k hk => ?_, Same.mut s1 nA⟩
        rcases List.mem_append.mp hk with z | z
        · exact all k z
        · rw [List.mem_singleton.mp z]
          refine ⟨t, et, ?_⟩
          have r1 : Rch fo (g t.one) t.one := ⟨_, gs.rp t.one o.1 o.2.1⟩
          have r2 : Rch fo (g t.other) t.other := ⟨_, gs.rp t.other o.2.2.1 o.2.2.2.1⟩
          rw [← eg] at r2
          obtain ⟨p, r3⟩ := r1.symm.trans r2
          exact ⟨p, r3.mono sub⟩
      · rw [decide_eq_false eg]
        refine ⟨.ref B, rfl, .inl ⟨rfl, _, SqL.of hB⟩, .ref L, rfl, .int i, rfl, L, us, i, .ref c, rfl, rfl, SqL.of hL1, atI_nat eu, B, _, _, rfl, rfl, hB, small1000 (by omega), ?_⟩
        have tkB := tk_lst (ys := fs ++ [.ref c]) hB
        have hp2 : Paired (TieV (upd H1 B (.lst (fs ++ [.ref c])))) (fs ++ [.ref c]) (fo ++ [t]) := Paired.snoc (ties_tk tkB hf) ⟨c, rfl, tkB _ _ hc1⟩
        have s2 := Same.mut (o := .lst (fs ++ [.ref c])) s1 nB0
        have hA2 : (upd H1 B (.lst (fs ++ [.ref c]))) A = some (.lst (ks.map fun k => V.int (k : Nat))) := by rw [upd_ne hAB]; exact hA
        have hB2 : (upd H1 B (.lst (fs ++ [.ref c]))) B = some (.lst (fs ++ [.ref c])) := upd_same
        generalize upd H1 B (.lst (fs ++ [.ref c])) = H2 at tkB hp2 s2 hA2 hB2
        have sub2 : ∀ x ∈ fo ++ [t], x ∈ ts.take (i + 1) := fun x hx => by
          rw [etk]
          rcases List.mem_append.mp hx with z | z
          · exact List.mem_append_left _ (sub x z)
          · exact List.mem_append_right _ z
        refine ⟨.int n, rfl, .ref B, rfl, n, B, _, fo ++ [t], List.replicate (fo ++ [t]).length true, rfl, hB2, kv_all hp2, by rw [List.length_replicate], fun x hx => ok.ok x (List.mem_of_mem_take (sub2 x hx)), n1, n40, fun r Fa Sa g2 sd2 good2 H3 nFa nSa s3 hr3 hF3 hS3 gs2 => ?_⟩
        rw [kt_all] at gs2
        refine ⟨r, _, 0, .ref Fa, rfl, rfl, SqT.of hr3, rfl, ?_⟩
        refine ⟨_, Fa, ks, _, fo ++ [t], g2, sd2, good2, rfl, s3 _ _ hA2, s3 _ _ hB2, ties_tk (Same.tk s3) hp2, hF3, (ne_of_none hA2 nFa).symm, (ne_of_none hB2 nFa).symm, sub2, by simp; omega, by omega, gs2, all, s2.trans s3⟩
    · rintro σ' H1 ⟨y5, Fi, ks, fs, fo, g, sd, good, rfl, hA, hB, hf, hF, nFA, nFB, sub, lf1, lk, gs, all, s1⟩
      exact ⟨.ref A, rfl, q A ks H1 nA s1 hA (by omega) all⟩
theorem ok_l_is_told {f : Addr} {fd : FuncData} (F : Fun K "_law_is_told" "_law_is_told" s_l_is_told f fd) (M : Free mg) (D_l_whole : Df P w K mg base 1 "_law_whole" ["_law_thing"] spWhole) (D_l_ring_right : Df P w K mg base 2 "_law_ring_right" ["_law_many_here", "_law_ties", "_law_tie", "_law_told"] spRing) : FnOk P w K mg base CX0 3 f fd ["_law_many_here", "_law_ties", "_law_number", "_law_told"] spTold34 := by
  obtain ⟨f_l_whole, fd_l_whole, G_l_whole, g_l_whole, k_l_whole, b_l_whole⟩ := D_l_whole
  obtain ⟨f_l_ring_right, fd_l_ring_right, G_l_ring_right, g_l_ring_right, k_l_ring_right, b_l_ring_right⟩ := D_l_ring_right
  refine F.ok sc_l_is_told (fun vs H Q E h => ?_) (fun cdv A outer s H vs Q E hr h => ?_)
  · obtain ⟨n, L, us, ts, ts1, k, v, qs, ms, rfl, _⟩ := h
    rfl
  · obtain ⟨n, L, us, ts, ts1, k, v, qs, ms, rfl, hL, hp, few, etk, fb, q⟩ := h
    refine ⟨_, (pss_cons (ps_if (PW.pt (pw_or (pt_not (pt_val (pe_callB call_isi (by rfl) M.isinstance (by decide +kernel) (pa_cons (pv 3) (pa_cons (pe_bltn (v := .ty "tuple") (by rfl) M.tuple (by decide +kernel) rfl) pa_nil))))) (pw_or (pt_cmpR op_ne (pe_callB call_len_seq (by rfl) M.len PySem.boot_len (pa_cons (pv 3) pa_nil)) pe_int (nomark _)) (pw_or (pt_not (pt_val (pe_call G_l_whole (hr.mono (by decide)) (by rfl) g_l_whole k_l_whole b_l_whole .nil pass0 (pa_cons (pe_ix ix_tup (pv 3) pe_int (fun _ _ => rfl)) pa_nil)))) (pw_or1 (pt_cmpR op_ne (pe_ix ix_tup (pv 3) pe_int (fun _ _ => rfl)) (pv 2) (nomark _)))))))
        (pss_one (ps_ret pe_bl))
        pss_nil)
      (pss_one (ps_ret (pe_call G_l_ring_right (hr.mono (by decide)) (by rfl) g_l_ring_right k_l_ring_right b_l_ring_right .nil pass0 (pa_cons (pv 0) (pa_cons (pe_slice sl_list (pv 1) po_none (po_some (pv 2))) (pa_cons (pe_ix ix_list (pv 1) (pv 2) (fun _ _ => rfl)) (pa_cons (pe_ix ix_tup (pv 3) pe_int (fun _ _ => rfl)) pa_nil)))))))), ?_⟩
    obtain ⟨r, rr, a, b, t, rfl, et, ring, exa, hr1, hr2, ha, hb⟩ := fb
    have lu : us.length = ts.length := Paired.length hp
    obtain ⟨t3, h3, e3⟩ := kn_tup (K := K) (H := H) (v := .ref r) (.inr (.inl ⟨_, hr1⟩))
    rw [isT_of hr1] at e3
    refine ⟨.ref r, rfl, .ref r, _, t3, _, _, rfl, .ty "tuple", h3, e3, _, rfl, ?_⟩
    refine ⟨.ref r, rfl, r, _, rfl, .inr (SqT.of hr1), rfl, _, rfl, ?_⟩
    refine ⟨.ref r, rfl, r, _, 0, .int k, rfl, rfl, SqT.of hr1, rfl, _, rfl, trivial, _, rfl, ?_⟩
    refine ⟨.ref r, rfl, r, _, 0, .int k, rfl, rfl, SqT.of hr1, rfl, .int k, rfl, rfl, _, rfl, ?_⟩
    rw [decide_eq_true rfl]
    have e1 : ts1.take k = ts.take k := by
      have := congrArg (List.take k) etk
      rw [List.take_take, List.take_take, Nat.min_eq_left (by omega)] at this
      exact this
    have e2 : ts[k]? = some t := by
      have := congrArg (fun l => l[k]?) etk
      simp only [List.getElem?_take] at this
      rw [if_pos (by omega), if_pos (by omega), et] at this
      exact this.symm
    have hk : k < ts.length := (List.getElem?_eq_some_iff.mp e2).1
    rw [e1] at ring
    obtain ⟨u, eu, c, ec, hc⟩ := Paired.at hp (List.getElem?_eq_getElem (show k < us.length by omega))
    rw [e2] at eu
    cases eu
    have eu : us[k]? = some (.ref c) := by rw [List.getElem?_eq_getElem (show k < us.length by omega), ec]
    refine ⟨.int n, rfl, .ref L, rfl, .int k, rfl, _, rfl, L, us, rfl, SqL.of hL, fun Y nY => ?_⟩
    rw [cut_take (by omega)]
    have sY := same_new (o := .lst (us.take k)) nY
    refine ⟨.ref L, rfl, .int k, rfl, L, us, k, .ref c, rfl, rfl, SqL.of (sY _ _ hL), atI_nat eu, .ref r, rfl, r, _, 1, .ref rr, rfl, rfl, SqT.of (sY _ _ hr1), rfl, Y, c, rr, a, b, n, us.take k, ts.take k, List.replicate k true, t, qs, ms, rfl, upd_same, ?_, by rw [List.length_take, List.length_replicate]; omega, by rw [List.length_take]; omega, sY _ _ hc, sY _ _ hr2, sY _ _ ha, sY _ _ hb, ring, fun H' s' => q _ (sY.trans s')⟩
    have := kv_all (Paired.cut k (ties_tk (Same.tk sY) hp))
    rw [List.length_take, Nat.min_eq_left (by omega)] at this
    exact this
end
/-! ### k34: the law -/
def spLawS (K : PySem.W.Frag) : Sp := fun vs H Q _ => ∃ (a : Addr) (ns : List Int), vs = [.ref a] ∧ SqL K H a (ns.map V.int) ∧ ns.length ≤ 63 ∧ ∀ H', Q (.bl true) H'
theorem set_take {α : Type} {l : List α} {j k : Nat} {x : α} (h : k ≤ j) : (l.set j x).take k = l.take k := by rw [List.take_set_of_le h]
section
variable {P : Program} {w : World} {K : PySem.W.Frag} {mg : Str → Option Value} {base : Heap}
theorem ok_law {f : Addr} {fd : FuncData} (F : Fun K "law" "law" s_law f fd) (M : Free mg) (D_l_many : Df P w K mg base 2 "_law_many" ["_law_script"] (spMany35 K)) (D_l_cell_at : Df P w K mg base 1 "_law_cell_at" ["_law_script", "_law_k"] (spCell K)) (D_l_draw : Df P w K mg base 1 "_law_draw" ["_law_well", "_law_many_here"] spDraw) (D_l_pair : Df P w K mg base 2 "_law_pair" ["_law_script", "_law_k", "_law_many_here", "_law_pairs", "_law_goes_round"] (spPair K)) (D_l_kind : Df P w K mg base 1 "_law_kind" ["_law_sides", "_law_pair_here"] spKind34) (D_first_broken : Df P w K mg base 3 "first_broken" ["web"] spFB) (D_l_led : Df P w K mg base 2 "_law_led" ["_law_many_here", "_law_ties"] spLed34) (D_l_other : Df P w K mg base 1 "_law_other" ["_law_kind_here"] spOther34) (D_l_is_told : Df P w K mg base 3 "_law_is_told" ["_law_many_here", "_law_ties", "_law_number", "_law_told"] spTold34) : FnOk P w K mg base CX0 5 f fd ["_law_script"] (spLawS K) := by
  obtain ⟨f_l_many, fd_l_many, G_l_many, g_l_many, k_l_many, b_l_many⟩ := D_l_many
  obtain ⟨f_l_cell_at, fd_l_cell_at, G_l_cell_at, g_l_cell_at, k_l_cell_at, b_l_cell_at⟩ := D_l_cell_at
  obtain ⟨f_l_draw, fd_l_draw, G_l_draw, g_l_draw, k_l_draw, b_l_draw⟩ := D_l_draw
  obtain ⟨f_l_pair, fd_l_pair, G_l_pair, g_l_pair, k_l_pair, b_l_pair⟩ := D_l_pair
  obtain ⟨f_l_kind, fd_l_kind, G_l_kind, g_l_kind, k_l_kind, b_l_kind⟩ := D_l_kind
  obtain ⟨f_first_broken, fd_first_broken, G_first_broken, g_first_broken, k_first_broken, b_first_broken⟩ := D_first_broken
  obtain ⟨f_l_led, fd_l_led, G_l_led, g_l_led, k_l_led, b_l_led⟩ := D_l_led
  obtain ⟨f_l_other, fd_l_other, G_l_other, g_l_other, k_l_other, b_l_other⟩ := D_l_other
  obtain ⟨f_l_is_told, fd_l_is_told, G_l_is_told, g_l_is_told, k_l_is_told, b_l_is_told⟩ := D_l_is_told
  refine F.ok sc_law (fun vs H Q E h => ?_) (fun cdv A outer s H vs Q E hr h => ?_)
  · obtain ⟨sc, ns, rfl, _⟩ := h
    rfl
  · obtain ⟨sc, ns, rfl, hS, few63, q⟩ := h
    refine ⟨_, (pss_cons (ps_asg (pe_call G_l_many (hr.mono (by decide)) (by rfl) g_l_many k_l_many b_l_many .nil pass0 (pa_cons (pv 0) pa_nil)) (pg_tup rfl (pgs_cons (pg_name (i := 1) sc_law.nd rfl (.inl rfl)) (pgs_cons (pg_name (i := 2) sc_law.nd rfl (.inl rfl)) (pgs_cons (pg_name (i := 3) sc_law.nd rfl (.inl rfl)) pgs_nil)))))
      (Evl.pss_cut (ps_set (i := 4) sc_law.nd rfl (.inr rfl) (pe_lc (own := [("_law_place", 5)]) (g := gName 5) (tt := tYes)  rfl sc_law.nd (pi_range1 (by rfl) M.range (pa_cons (pv 1) pa_nil)) (blkOk_by (N := N_law) (sc := defScope s_law) (own := [("_law_place", 5)]) (by decide +kernel)) (fun _ _ _ _ _ => (pg_name (i := 5) sc_law.nd rfl (.inl rfl))) (fun _ _ _ _ _ => pts_nil) (fun _ _ _ _ _ => (pe_call G_l_draw (hr.mono (by decide)) (by rfl) g_l_draw k_l_draw b_l_draw .nil pass0 (pa_cons (pe_lst (pa_cons (pe_op op_add (pe_op op_fdiv (pe_call G_l_cell_at (hr.mono (by decide)) (by rfl) g_l_cell_at k_l_cell_at b_l_cell_at .nil pass0 (pa_cons (pv 0) (pa_cons pe_int pa_nil))) pe_int) (pe_op op_mul pe_int (pv 5))) (pa_cons (pv 5) pa_nil))) (pa_cons pe_int pa_nil))))))
      (pss_cons (ps_set (i := 6) sc_law.nd rfl (.inl rfl) (pe_lst pa_nil))
      (Evl.pss_cut (ps_for PassesOwn.never rfl (pi_range1 (by rfl) M.range (pa_cons (pv 2) pa_nil)) (pg_name (i := 7) sc_law.nd rfl (.inl rfl))
        (pss_one (ps_expr (pe_bm PySem.F.plainAttrs_list PySem.F.slot_list_append PySem.F.type_list_append mt_append (pv 6) (pa_cons (pe_call G_l_pair (hr.mono (by decide)) (by rfl) g_l_pair k_l_pair b_l_pair .nil pass0 (pa_cons (pv 0) (pa_cons (pv 7) (pa_cons (pv 1) (pa_cons (pv 6) (pa_cons (pv 3) pa_nil)))))) pa_nil)))))
      (Evl.pss_cut (ps_setLc (i := 8) (own := [("_law_pair_here", 9)]) (g := (gName 9)) (tt := tYes) rfl sc_law.nd rfl rfl (sw_true rfl rfl rfl (by decide +kernel)) (pi_list (pv 6)) (blkOk_by (N := N_law) (sc := defScope s_law) (own := [("_law_pair_here", 9)]) (by decide +kernel)) (fun _ _ _ _ _ => (pg_name (i := 9) sc_law.nd rfl (.inl rfl))) (fun _ _ _ _ _ => pts_nil) (fun _ _ _ _ _ => (pe_op op_catU (pv 9) (pe_tup (pa_cons (pe_call G_l_kind (hr.mono (by decide)) (by rfl) g_l_kind k_l_kind b_l_kind .nil pass0 (pa_cons (pv 4) (pa_cons (pv 9) pa_nil))) pa_nil)))))
      (Evl.pss_cut (ps_if (pt_cmpR op_notN (pe_call G_first_broken (hr.mono (by decide)) (by rfl) g_first_broken k_first_broken b_first_broken .nil pass0 (pa_cons (pe_tup (pa_cons (pv 1) (pa_cons (pe_callTy call_tuple_of (by rfl) M.tuple (by decide +kernel) (pa_cons (pv 8) pa_nil)) pa_nil))) pa_nil)) pe_non (nomark _))
        (pss_one (ps_ret pe_bl))
        pss_nil)
      (pss_cons (ps_set (i := 10) sc_law.nd rfl (.inl rfl) (pe_call G_l_led (hr.mono (by decide)) (by rfl) g_l_led k_l_led b_l_led .nil pass0 (pa_cons (pv 1) (pa_cons (pv 8) pa_nil))))
      (pss_cons (ps_if (pt_cmpR (op_eqE hr.units0) (pv 10) (pe_lst pa_nil) (nomark _))
        (pss_one (ps_ret pe_bl))
        pss_nil)
      (Evl.pss_cut (ps_set (i := 11) sc_law.nd rfl (.inl rfl) (pe_ix ix_list (pv 10) (pe_call G_l_draw (hr.mono (by decide)) (by rfl) g_l_draw k_l_draw b_l_draw .nil pass0 (pa_cons (pe_lst (pa_cons (pe_call G_l_cell_at (hr.mono (by decide)) (by rfl) g_l_cell_at k_l_cell_at b_l_cell_at .nil pass0 (pa_cons (pv 0) (pa_cons pe_int pa_nil))) (pa_cons pe_int pa_nil))) (pa_cons (pe_callB call_len_seq (by rfl) M.len PySem.boot_len (pa_cons (pv 10) pa_nil)) pa_nil))) (fun _ _ => rfl)))
      (Evl.pss_cut (ps_asg (pe_op op_catU (pe_slice sl_tupU (pe_ix ix_list (pv 8) (pv 11) (fun _ _ => rfl)) po_none (po_some pe_int)) (pe_tup (pa_cons (pe_call G_l_other (hr.mono (by decide)) (by rfl) g_l_other k_l_other b_l_other .nil pass0 (pa_cons (pe_ix ix_tup (pe_ix ix_list (pv 8) (pv 11) (fun _ _ => rfl)) pe_int (fun _ _ => rfl)) pa_nil)) pa_nil))) (pg_sub (pv 8) (pv 11) set_list))
      (Evl.pss_cut (ps_for PassesOwn.never rfl (pi_range2 (by rfl) M.range (pa_cons (pe_op op_add (pv 11) pe_int) (pa_cons (pv 2) pa_nil))) (pg_name (i := 7) sc_law.nd rfl (.inl rfl))
        (pss_one (ps_asg (pe_op op_catU (pe_slice sl_tupU (pe_ix ix_list (pv 8) (pv 7) (fun _ _ => rfl)) po_none (po_some pe_int)) (pe_tup (pa_cons (pe_ix ix_list (pe_lst (pa_cons pe_str (pa_cons pe_str pa_nil))) (pe_call G_l_draw (hr.mono (by decide)) (by rfl) g_l_draw k_l_draw b_l_draw .nil pass0 (pa_cons (pe_lst (pa_cons (pe_call G_l_cell_at (hr.mono (by decide)) (by rfl) g_l_cell_at k_l_cell_at b_l_cell_at .nil pass0 (pa_cons (pv 0) (pa_cons pe_int pa_nil))) (pa_cons (pe_op op_add pe_int (pv 7)) pa_nil))) (pa_cons pe_int pa_nil))) (fun _ _ => rfl)) pa_nil))) (pg_sub (pv 8) (pv 7) set_list))))
      (Evl.pss_cut (ps_set (i := 12) sc_law.nd rfl (.inl rfl) (pe_call G_first_broken (hr.mono (by decide)) (by rfl) g_first_broken k_first_broken b_first_broken .nil pass0 (pa_cons (pe_tup (pa_cons (pv 1) (pa_cons (pe_callTy call_tuple_of (by rfl) M.tuple (by decide +kernel) (pa_cons (pv 8) pa_nil)) pa_nil))) pa_nil)))
      (Evl.pss_cut (ps_if (PW.pt (pw_or (pt_not (pt_val (pe_call G_l_is_told (hr.mono (by decide)) (by rfl) g_l_is_told k_l_is_told b_l_is_told .nil pass0 (pa_cons (pv 1) (pa_cons (pv 8) (pa_cons (pv 11) (pa_cons (pv 12) pa_nil))))))) (pw_or1 (pt_cmpR (op_neD hr.units) (pe_call G_first_broken (hr.mono (by decide)) (by rfl) g_first_broken k_first_broken b_first_broken .nil pass0 (pa_cons (pe_tup (pa_cons (pv 1) (pa_cons (pe_callTy call_tuple_of (by rfl) M.tuple (by decide +kernel) (pa_cons (pv 8) pa_nil)) pa_nil))) pa_nil)) (pv 12) (nomark _)))))
        (pss_one (ps_ret pe_bl))
        pss_nil)
      (Evl.pss_cut (ps_if (pt_not (pt_val (pe_call G_l_is_told (hr.mono (by decide)) (by rfl) g_l_is_told k_l_is_told b_l_is_told .nil pass0 (pa_cons (pv 1) (pa_cons (pv 8) (pa_cons (pv 11) (pa_cons (pe_call G_first_broken (hr.mono (by decide)) (by rfl) g_first_broken k_first_broken b_first_broken .nil pass0 (pa_cons (pe_tup (pa_cons (pv 1) (pa_cons (pe_callTy call_tuple_of (by rfl) M.tuple (by decide +kernel) (pa_cons (pe_slice sl_list (pv 8) po_none (po_some (pe_op op_add (pv 11) pe_int))) pa_nil)) pa_nil))) pa_nil)) pa_nil)))))))
        (pss_one (ps_ret pe_bl))
        pss_nil)
      (pss_one (ps_ret (pe_cmpR op_isN (pe_call G_first_broken (hr.mono (by decide)) (by rfl) g_first_broken k_first_broken b_first_broken .nil pass0 (pa_cons (pe_tup (pa_cons (pv 1) (pa_cons (pe_callTy call_tuple_of (by rfl) M.tuple (by decide +kernel) (pa_cons (pe_slice sl_list (pv 8) po_none (po_some (pv 11))) pa_nil)) pa_nil))) pa_nil)) pe_non (nomark _)))))))))))))))))), ?_⟩
    refine ⟨.ref sc, rfl, sc, ns, rfl, hS, fun r0 n cnt gb H0 s0 hr0 n1 n40 c0 c1 cn => ?_⟩
    refine ⟨r0, _, rfl, SqT.of hr0, rfl, _, _, rfl, _, _, rfl, _, _, rfl, rfl, ?_⟩
    have hS0 := s0.seq hS
    clear hr0 s0 hS
    -- the sides
    refine ⟨fun σ' H' => ∃ (S : Addr) (ys : List Int), σ' = [some (.ref sc), some (.int n), some (.int cnt), some (.bl gb), some (.ref S), none, none, none, none, none, none, none, none] ∧ H' S = some (.lst (ys.map V.int)) ∧ ys.length = n ∧ (∀ y ∈ ys, y = 0 ∨ y = 1) ∧ H0 S = none ∧ Same H0 H', ?_, ?_⟩
    · refine ⟨.int n, rfl, n, rfl, by omega, by omega, fun Z nZ => ?_⟩
      refine lc_range (lo := 0) (n := n) (fun j H' => ∃ ys : List Int, H' Z = some (.lst (ys.map V.int)) ∧ ys.length = j ∧ (∀ y ∈ ys, y = 0 ∨ y = 1) ∧ Same H0 H') ⟨[], upd_same, rfl, fun y hy => (by cases hy), same_new nZ⟩ ?_ ?_
      · rintro j H1 hj ⟨ys, hZ, ly, hy, s1⟩
        rw [show (0 : Int) + (j : Nat) = j from by omega]
        refine ⟨rfl, .ref sc, rfl, sc, ns, 0, rfl, s1.seq hS0, by decide, fun cell => ⟨cell, 64, rfl, rfl, ⟨by decide, by decide⟩, .int j, rfl, 5, j, rfl, rfl, .inl ⟨by decide, by decide⟩, _, _, rfl, rfl, .int j, rfl, by show 2 ≤ sizeLine; decide, fun d nd => ?_⟩⟩
        have sd := same_new (o := .lst [.int (cell / 64 + 5 * (j : Int)), .int j]) nd
        have hZd : Z ≠ d := ne_of_none hZ nd
        refine ⟨d, 40, 2, rfl, ⟨_, j, upd_same, by omega, by omega⟩, by decide, by decide, by decide, fun v H2 a2 b2 W2 K2 => ?_⟩
        have hZ2 := K2 _ _ hZd (sd _ _ hZ)
        refine ⟨_, hZ2, by rw [List.length_map]; exact small1000 (by omega), ys ++ [v], by rw [upd_same, List.map_append]; rfl, by simp [ly], fun y h => ?_, Same.mut (K2.same (s1.trans sd) (s1.free nd)) nZ⟩
        rcases List.mem_append.mp h with z | z
        · exact hy y z
        · rw [List.mem_singleton.mp z]
          omega
      · rintro H1 ⟨ys, hZ, ly, hy, s1⟩
        exact ⟨Z, ys, rfl, hZ, ly, hy, nZ, s1⟩
    rintro σ' H1 ⟨S, ys, rfl, hSd, ly, hy, nS, s1⟩
    refine ⟨Nat.zero_le _, fun L6 n6 => ?_⟩
    have e6 := same_new (o := .lst []) n6
    have hSd1 := e6 _ _ hSd
    have l6S : L6 ≠ S := (ne_of_none hSd n6).symm
    have n60 : H0 L6 = none := s1.free n6
    have h60 := upd_same (H := H1) (a := L6) (o := .lst [])
    have s2 := s1.trans e6
    generalize upd H1 L6 (.lst []) = H2 at h60 s2 hSd1
    clear e6 n6 hSd s1
    -- the pairs
    refine ⟨fun σ' H' => ∃ (y7 : Option V) (us : List V), σ' = [some (.ref sc), some (.int n), some (.int cnt), some (.bl gb), some (.ref S), none, some (.ref L6), y7, none, none, none, none, none] ∧ H' L6 = some (.lst us) ∧ (us.length : Int) = cnt ∧ (∀ u ∈ us, PrV n H' u) ∧ H' S = some (.lst (ys.map V.int)) ∧ Same H0 H', ?_, ?_⟩
    · refine ⟨.int cnt, rfl, cnt, rfl, by omega, by omega, ?_⟩
      refine for_range (lo := 0) (n := cnt.toNat) (fun i σ' H' => ∃ (y7 : Option V) (us : List V), σ' = [some (.ref sc), some (.int n), some (.int cnt), some (.bl gb), some (.ref S), none, some (.ref L6), y7, none, none, none, none, none] ∧ H' L6 = some (.lst us) ∧ us.length = i ∧ (∀ u ∈ us, PrV n H' u) ∧ H' S = some (.lst (ys.map V.int)) ∧ Same H0 H') ⟨none, [], rfl, h60, rfl, fun u hu => (by cases hu), hSd1, s2⟩ ?_ ?_
      · rintro i σ' H3 hi ⟨y7, us, rfl, h6, lu, hpr, hSd, s3⟩
        rw [show (0 : Int) + (i : Nat) = i from by omega]
        have n2 : 2 ≤ n := by
          by_cases h : n = 1
          · have := cn h
            omega
          · omega
        refine ⟨.ref L6, rfl, .inl ⟨rfl, _, SqL.of h6⟩, .ref sc, rfl, .int i, rfl, .int n, rfl, .ref L6, rfl, .bl gb, rfl, sc, L6, ns, i, n, us, gb, rfl, s3.seq hS0, by omega, by omega, n2, n40, h6, by omega, hpr, fun v H4 s4 pv => ⟨L6, us, v, rfl, rfl, s4 _ _ h6, small1000 (by omega), ?_⟩⟩
        have tk5 := tk_lst (ys := us ++ [v]) (s4 _ _ h6)
        refine ⟨_, us ++ [v], rfl, upd_same, by simp [lu], fun z hz => ?_, by rw [upd_ne (Ne.symm l6S)]; exact s4 _ _ hSd, Same.mut (s3.trans s4) n60⟩
        rcases List.mem_append.mp hz with y | y
        · exact ((hpr z y).tk (Same.tk s4)).tk tk5
        · rw [List.mem_singleton.mp y]
          exact pv.tk tk5
      · rintro σ' H3 ⟨y7, us, rfl, h6, lu, hpr, hSd, s3⟩
        exact ⟨_, us, rfl, h6, by omega, hpr, hSd, s3⟩
    clear h60 hSd1 s2
    rintro σ' H3 ⟨y7, us, rfl, h6, lu, hpr, hSd, s3⟩
    -- the ties
    let sd : Int → Bool := fun x => bit (ys.getD x.toNat 0)
    have hsd : ∀ x y : Int, 0 ≤ x → x < n → 0 ≤ y → y < n → (sd x ^^ sd y) = decide (ys.getD x.toNat 0 ≠ ys.getD y.toNat 0) := fun x y x0 x1 y0 y1 => by
      have v : ∀ z : Int, 0 ≤ z → z < n → ys.getD z.toNat 0 = 0 ∨ ys.getD z.toNat 0 = 1 := fun z z0 z1 => by
        rw [List.getD_eq_getElem?_getD, List.getElem?_eq_getElem (by omega)]
        exact hy _ (List.getElem_mem _)
      show (bit (ys.getD x.toNat 0) ^^ bit (ys.getD y.toNat 0)) = _
      rcases v x x0 x1 with e1 | e1 <;> rcases v y y0 y1 with e2 | e2 <;> rw [e1, e2] <;> rfl
    refine ⟨fun σ' H' => ∃ (y9 : Option V) (L8 : Addr) (vs : List V) (ts : List Tie), σ' = [some (.ref sc), some (.int n), some (.int cnt), some (.bl gb), some (.ref S), none, some (.ref L6), y7, some (.ref L8), y9, none, none, none] ∧ H' L8 = some (.lst vs) ∧ H0 L8 = none ∧ Paired (TieV H') vs ts ∧ (∀ t ∈ ts, TieOk n t ∧ (sd t.one ^^ sd t.other) = t.foe) ∧ (ts.length : Int) = cnt ∧ Same H0 H', ?_, ?_⟩
    · refine ⟨.ref L6, rfl, L6, rfl, ⟨_, SqL.of h6⟩, fun Z nZ => ?_⟩
      refine lc_list (xs := us) (fun j H' => ∃ (vs : List V) (ts : List Tie), H' Z = some (.lst vs) ∧ Paired (TieV H') vs ts ∧ (∀ t ∈ ts, TieOk n t ∧ (sd t.one ^^ sd t.other) = t.foe) ∧ ts.length = j ∧ Same H3 H') ⟨[], [], upd_same, .nil, fun t ht => (by cases ht), rfl, same_new nZ⟩ (fun j H' _ h => by
        obtain ⟨_, _, _, _, _, _, s1⟩ := h
        exact SqL.of (s1 _ _ h6)) ?_ ?_
      · rintro j x H4 ex ⟨vs, ts, hZ, hp, ok, lt, s4⟩
        obtain ⟨a, x1, y1, rfl, ha, okp⟩ := (hpr _ (List.mem_of_getElem? ex)).tk (Same.tk s4)
        have hj := (List.getElem?_eq_some_iff.mp ex).1
        have lv : vs.length = ts.length := Paired.length hp
        refine ⟨rfl, .ref a, rfl, .ref S, rfl, .ref a, rfl, S, a, ys, x1, y1, rfl, s4 _ _ hSd, ha, ⟨okp.1, by have h : x1 < (n : Int) := okp.2.1; omega⟩, ⟨okp.2.2.1, by have h : y1 < (n : Int) := okp.2.2.2.1; omega⟩, fun H5 s5 => ⟨by show 1 ≤ sizeLine; decide, fun T nT => ?_⟩⟩
        have eT := same_new (o := .tup [.str (kindS (decide (ys.getD x1.toNat 0 ≠ ys.getD y1.toNat 0)))]) nT
        refine ⟨a, T, _, _, rfl, rfl, eT _ _ (s5 _ _ ha), upd_same, by show 2 + 1 ≤ 100000; decide, fun r H6 s6 hr6 => ?_⟩
        have s46 := (s5.trans eT).trans s6
        have hZ6 := s46 _ _ hZ
        have tkZ := tk_lst (ys := vs ++ [.ref r]) hZ6
        have hr6 : H6 r = some (.tup [.int x1, .int y1, .str (kindS (decide (ys.getD x1.toNat 0 ≠ ys.getD y1.toNat 0)))]) := hr6
        refine ⟨vs, hZ6, small1000 (by omega), vs ++ [.ref r], ts ++ [⟨x1, y1, decide (ys.getD x1.toNat 0 ≠ ys.getD y1.toNat 0)⟩], upd_same, Paired.snoc (ties_tk ((Same.tk s46).trans tkZ) hp) ⟨r, rfl, by exact tkZ _ _ hr6⟩, fun t ht => ?_, by simp [lt], Same.mut (s4.trans s46) nZ⟩
        rcases List.mem_append.mp ht with z | z
        · exact ok t z
        · rw [List.mem_singleton.mp z]
          exact ⟨okp, hsd x1 y1 okp.1 okp.2.1 okp.2.2.1 okp.2.2.2.1⟩
      · rintro H4 ⟨vs, ts, hZ, hp, ok, lt, s4⟩
        exact ⟨_, Z, vs, ts, rfl, hZ, s3.free nZ, hp, ok, by omega, s3.trans s4⟩
    clear h6 hpr hSd s3 hy
    rintro σ' H4 ⟨y9, L8, vs, ts, rfl, h8, n8, hp, ok, lt, s4⟩
    have wok : WebOk n ts := ⟨by omega, by omega, by omega, fun t ht => (ok t ht).1⟩
    have lv : vs.length = ts.length := Paired.length hp
    -- none is broken
    refine ⟨fun σ' H' => σ' = [some (.ref sc), some (.int n), some (.int cnt), some (.bl gb), some (.ref S), none, some (.ref L6), y7, some (.ref L8), y9, none, none, none] ∧ Same H4 H', ?_, ?_⟩
    · refine ⟨.int n, rfl, .ref L8, rfl, L8, vs, rfl, .inl ⟨SqL.of h8, fun T nT => ⟨by show 2 ≤ sizeLine; decide, fun r nr => ?_⟩⟩⟩
      have s5 := (same_new (o := .tup vs) nT).trans (same_new (o := .tup [.int n, .ref T]) nr)
      have hW : WebAt (upd (upd H4 T (.tup vs)) r (.tup [.int n, .ref T])) (.ref r) n ts := ⟨r, T, vs, rfl, upd_same, same_new nr _ _ upd_same, ties_tk (Same.tk s5) hp⟩
      refine ⟨.ref r, n, ts, rfl, hW, wok, fun H6 _ s6 => ⟨rfl, _, rfl, ?_⟩, fun k t _ _ _ _ _ _ H6 fa => absurd fa.odd (true_calm fun t ht => (ok t ht).2)⟩
      exact ⟨rfl, s5.trans s6⟩
    rintro σ' H5 ⟨rfl, s5⟩
    have h85 := s5 _ _ h8
    have hp5 := ties_tk (Same.tk s5) hp
    have s05 := s4.trans s5
    clear h8 hp s4 s5
    refine ⟨.int n, rfl, .ref L8, rfl, n, L8, vs, ts, rfl, h85, hp5, wok, fun R ks H6 nR s6 hR lk all => ?_⟩
    refine ⟨.ref R, rfl, Nat.zero_le _, fun Z nZ => ⟨R, Z, _, rfl, rfl, SqL.of (same_new nZ _ _ hR), SqL.of upd_same, _, rfl, ?_⟩⟩
    have eZ := same_new (o := .lst []) nZ
    have s56 := s6.trans eZ
    have h86 := s56 _ _ h85
    have hp6 := ties_tk (Same.tk s56) hp5
    have hR6 := eZ _ _ hR
    have s06 := s05.trans s56
    generalize upd H6 Z (.lst []) = H7 at s56 h86 hp6 hR6 s06
    clear eZ nZ hR s6 h85 hp5 s05 H6
    by_cases hk0 : ks = []
    · subst hk0
      exact q _
    rw [show ((ks.map fun k => V.int (k : Nat)).isEmpty) = false from by cases ks; exact absurd rfl hk0; rfl]
    have kpos : 0 < ks.length := List.length_pos_iff.mpr hk0
    -- the number
    refine ⟨fun σ' H' => ∃ (k : Nat) (t : Tie), σ' = [some (.ref sc), some (.int n), some (.int cnt), some (.bl gb), some (.ref S), none, some (.ref L6), y7, some (.ref L8), y9, some (.ref R), some (.int k), none] ∧ ts[k]? = some t ∧ Rch (ts.take k) t.one t.other ∧ Same H7 H', ?_, ?_⟩
    · refine ⟨.ref R, rfl, .ref sc, rfl, sc, ns, 1, rfl, s06.seq hS0, by decide, fun cell => ⟨by show 2 ≤ sizeLine; decide, fun d nd => ?_⟩⟩
      have sd := same_new (o := .lst [.int cell, .int 7]) nd
      refine ⟨.ref R, rfl, R, _, rfl, .inl (SqL.of (sd _ _ hR6)), d, 7, _, rfl, ⟨cell, 7, upd_same, by decide, by decide⟩, by decide, by rw [List.length_map]; omega, by rw [List.length_map]; omega, fun v H8 a8 b8 W8 K8 => ?_⟩
      rw [List.length_map] at b8
      have s8 := K8.same sd nd
      have hv : v.toNat < ks.length := by omega
      obtain ⟨t, e1, e2⟩ := all _ (List.getElem_mem hv)
      refine ⟨R, _, v, .int (ks[v.toNat] : Nat), rfl, rfl, SqL.of (s8 _ _ hR6), atI_of a8 (by rw [List.getElem?_map, List.getElem?_eq_getElem hv]; rfl), ?_⟩
      exact ⟨ks[v.toNat], t, rfl, e1, e2, s8⟩
    rintro σ' H8 ⟨k, t, rfl, et, rch, s8⟩
    have hkt : k < ts.length := (List.getElem?_eq_some_iff.mp et).1
    have okt := ok t (List.mem_of_getElem? et)
    obtain ⟨t', et', c, ec, hc⟩ := Paired.at (ties_tk (Same.tk s8) hp6) (List.getElem?_eq_getElem (show k < vs.length by omega))
    rw [et] at et'
    cases et'
    have eu : vs[k]? = some (.ref c) := by rw [List.getElem?_eq_getElem (show k < vs.length by omega), ec]
    have h88 := s8 _ _ h86
    -- the tie put otherwise
    refine ⟨fun σ' H' => ∃ (vs' : List V), σ' = [some (.ref sc), some (.int n), some (.int cnt), some (.bl gb), some (.ref S), none, some (.ref L6), y7, some (.ref L8), y9, some (.ref R), some (.int k), none] ∧ H' L8 = some (.lst vs') ∧ Paired (TieV H') vs' (ts.set k ⟨t.one, t.other, !t.foe⟩) ∧ Same H0 H', ?_, ?_⟩
    · refine ⟨.ref L8, rfl, .int k, rfl, L8, vs, k, .ref c, rfl, rfl, SqL.of h88, atI_nat eu, 2, rfl, c, _, rfl, hc, fun r1 H9 s9 hr9 => ?_⟩
      have h89 := s9 _ _ h88
      refine ⟨.ref L8, rfl, .int k, rfl, L8, vs, k, .ref c, rfl, rfl, SqL.of h89, atI_nat eu, c, _, 2, .str (kindS t.foe), rfl, rfl, SqT.of (s9 _ _ hc), rfl, t.foe, rfl, fun H10 s10 => ⟨by show 1 ≤ sizeLine; decide, fun T nT => ?_⟩⟩
      have eT := same_new (o := .tup [.str (kindS (!t.foe))]) nT
      refine ⟨r1, T, _, _, rfl, rfl, eT _ _ (s10 _ _ hr9), upd_same, by show 2 + 1 ≤ 100000; decide, fun r H11 s11 hr11 => ?_⟩
      have s811 := ((s9.trans s10).trans eT).trans s11
      have h811 := s811 _ _ h88
      refine ⟨.ref L8, rfl, .int k, rfl, L8, vs, k, k, rfl, rfl, h811, ixN_of (i := (k : Int)) (by omega) (by omega), ?_⟩
      have tk8 := tk_lst (ys := vs.set k (.ref r)) h811
      exact ⟨_, rfl, upd_same, paired_set (ties_tk (((Same.tk s8).trans (Same.tk s811)).trans tk8) hp6) ⟨r, rfl, tk8 _ _ hr11⟩, Same.mut ((s06.trans s8).trans s811) n8⟩
    clear h86 hp6 hR6 s06 s56 s8 h88 hc eu ec
    rintro σ' H9 ⟨vs1, rfl, h89, hp9, s09⟩
    have len1 : (ts.set k ⟨t.one, t.other, !t.foe⟩).length = ts.length := List.length_set
    have e1 : (ts.set k ⟨t.one, t.other, !t.foe⟩).take (k + 1) = ts.take k ++ [⟨t.one, t.other, !t.foe⟩] := by
      rw [take_snoc (t := ⟨t.one, t.other, !t.foe⟩) (by rw [List.getElem?_set_self hkt]), List.take_set_of_le (Nat.le_refl _)]
    have ok1 : ∀ x ∈ ts.set k ⟨t.one, t.other, !t.foe⟩, TieOk n x := fun x hx => by
      rcases List.mem_or_eq_of_mem_set hx with z | z
      · exact (ok x z).1
      · rw [z]
        exact okt.1
    generalize ts.set k ⟨t.one, t.other, !t.foe⟩ = ts1 at hp9 len1 e1 ok1
    -- the ties behind it
    refine ⟨fun σ' H' => ∃ (y7 : Option V) (vs' : List V) (us : List Tie), σ' = [some (.ref sc), some (.int n), some (.int cnt), some (.bl gb), some (.ref S), none, some (.ref L6), y7, some (.ref L8), y9, some (.ref R), some (.int k), none] ∧ H' L8 = some (.lst vs') ∧ Paired (TieV H') vs' us ∧ us.length = ts.length ∧ us.take (k + 1) = ts.take k ++ [⟨t.one, t.other, !t.foe⟩] ∧ (∀ x ∈ us, TieOk n x) ∧ Same H0 H', ?_, ?_⟩
    · refine ⟨.int k, rfl, k, 1, rfl, rfl, .int cnt, rfl, (k : Int) + 1, cnt, rfl, ⟨by omega, by omega, by omega, by omega⟩, ?_⟩
      refine for_range (lo := (k : Int) + 1) (n := (cnt - ((k : Int) + 1)).toNat) (fun i σ' H' => ∃ (y7 : Option V) (vs' : List V) (us : List Tie), σ' = [some (.ref sc), some (.int n), some (.int cnt), some (.bl gb), some (.ref S), none, some (.ref L6), y7, some (.ref L8), y9, some (.ref R), some (.int k), none] ∧ H' L8 = some (.lst vs') ∧ Paired (TieV H') vs' us ∧ us.length = ts.length ∧ us.take (k + 1) = ts.take k ++ [⟨t.one, t.other, !t.foe⟩] ∧ (∀ x ∈ us, TieOk n x) ∧ Same H0 H') ⟨_, vs1, ts1, rfl, h89, hp9, len1, e1, ok1, s09⟩ ?_ (fun σ' H' h => h)
      rintro i σ' H10 hi ⟨y7, vs2, us, rfl, h8, hp, len, etk, oku, s10⟩
      obtain ⟨j, ej⟩ : ∃ j : Nat, (k : Int) + 1 + (i : Int) = (j : Nat) := ⟨k + 1 + i, by omega⟩
      rw [ej]
      have hj : j < us.length := by omega
      have lv2 : vs2.length = us.length := Paired.length hp
      obtain ⟨u, eu, c, ec, hc⟩ := Paired.at hp (List.getElem?_eq_getElem (show j < vs2.length by omega))
      have ev : vs2[j]? = some (.ref c) := by rw [List.getElem?_eq_getElem (show j < vs2.length by omega), ec]
      refine ⟨.ref L8, rfl, .int j, rfl, L8, vs2, j, .ref c, rfl, rfl, SqL.of h8, atI_nat ev, 2, rfl, c, _, rfl, hc, fun r1 H11 s11 hr11 => ?_⟩
      refine ⟨by show 2 ≤ sizeLine; decide, fun p np => ?_⟩
      have ep := same_new (o := .lst [.str "friend", .str "foe"]) np
      have s012 := (s10.trans s11).trans ep
      refine ⟨.ref sc, rfl, sc, ns, 2, rfl, s012.seq hS0, by decide, fun cell => ⟨.int j, rfl, 13, j, rfl, rfl, by show 2 ≤ sizeLine; decide, fun d nd => ?_⟩⟩
      have ed := same_new (o := .lst [.int cell, .int (13 + (j : Int))]) nd
      refine ⟨d, 13 + (j : Int), 2, rfl, ⟨cell, 13 + (j : Int), upd_same, by omega, by omega⟩, by omega, by decide, by decide, fun v H12 a12 b12 W12 K12 => ?_⟩
      have hpd : p ≠ d := ne_of_none upd_same nd
      have hp12 := K12 _ _ hpd (ed _ _ (upd_same (H := H11) (a := p) (o := .lst [.str "friend", .str "foe"])))
      have s12 := K12.same (ep.trans ed) (ep.free nd)
      have fin : ∀ b : Bool, v = (if b = true then 1 else 0) → ∃ xv, atI [V.str "friend", V.str "foe"] v = some xv ∧ xv = .str (kindS b) := fun b hb => by
        subst hb
        cases b <;> exact ⟨_, rfl, rfl⟩
      obtain ⟨b, hb⟩ : ∃ b : Bool, v = (if b = true then 1 else 0) := by
        have h01 : v = 0 ∨ v = 1 := by omega
        rcases h01 with h | h
        · exact ⟨false, h⟩
        · exact ⟨true, h⟩
      obtain ⟨xv, hx1, rfl⟩ := fin b hb
      refine ⟨p, _, v, _, rfl, rfl, SqL.of hp12, hx1, by show 1 ≤ sizeLine; decide, fun T nT => ?_⟩
      have eT := same_new (o := .tup [.str (kindS b)]) nT
      refine ⟨r1, T, _, _, rfl, rfl, eT _ _ (s12 _ _ hr11), upd_same, by show 2 + 1 ≤ 100000; decide, fun r H13 s13 hr13 => ?_⟩
      have s1013 := ((s11.trans s12).trans eT).trans s13
      have h813 := s1013 _ _ h8
      refine ⟨.ref L8, rfl, .int j, rfl, L8, vs2, j, j, rfl, rfl, h813, ixN_of (i := (j : Int)) (by omega) (by omega), ?_⟩
      have tk8 := tk_lst (ys := vs2.set j (.ref r)) h813
      refine ⟨_, _, us.set j ⟨u.one, u.other, b⟩, rfl, upd_same, paired_set (ties_tk ((Same.tk s1013).trans tk8) hp) ⟨r, rfl, tk8 _ _ hr13⟩, by rw [List.length_set]; exact len, by rw [List.take_set_of_le (by omega)]; exact etk, fun x hx => ?_, Same.mut (s10.trans s1013) n8⟩
      rcases List.mem_or_eq_of_mem_set hx with z | z
      · exact oku x z
      · rw [z]
        exact oku u (List.mem_of_getElem? eu)
    clear hp9 h89 s09 len1 e1 ok1
    rintro σ' H10 ⟨y77, vs2, us, rfl, h8, hp, len, etk, oku, s10⟩
    have wok2 : WebOk n us := ⟨by omega, by omega, by omega, oku⟩
    have lv2 : vs2.length = us.length := Paired.length hp
    have etk0 : us.take k = ts.take k := by
      have := congrArg (List.take k) etk
      rw [List.take_take, Nat.min_eq_left (by omega), List.take_append_of_le_length (by rw [List.length_take]; omega), List.take_take, Nat.min_self] at this
      exact this
    have fa : ∀ us' : List Tie, k < us'.length → us'.take (k + 1) = us.take (k + 1) → FirstAt us' n k := fun us' hk' e => by
      refine true_first (sd := sd) (ts := ts.take k) (t := ⟨t.one, t.other, !t.foe⟩) (fun x hx => (ok x (List.mem_of_mem_take hx)).2) okt.1 rch ?_ hk' (by rw [e, etk]) ?_
      · show (!t.foe) = !(sd t.one ^^ sd t.other)
        rw [okt.2]
      · have := congrArg (List.take k) e
        rw [List.take_take, List.take_take, Nat.min_eq_left (by omega)] at this
        rw [this, etk0]
    -- it is told
    refine ⟨fun σ' H' => ∃ (v : V) (qs ms : List Int), σ' = [some (.ref sc), some (.int n), some (.int cnt), some (.bl gb), some (.ref S), none, some (.ref L6), y77, some (.ref L8), y9, some (.ref R), some (.int k), some v] ∧ FBAt H' v n k us qs ms ∧ Same H10 H', ?_, ?_⟩
    · refine ⟨.int n, rfl, .ref L8, rfl, L8, vs2, rfl, .inl ⟨SqL.of h8, fun T nT => ⟨by show 2 ≤ sizeLine; decide, fun r nr => ?_⟩⟩⟩
      have s5 := (same_new (o := .tup vs2) nT).trans (same_new (o := .tup [.int n, .ref T]) nr)
      have hW : WebAt (upd (upd H10 T (.tup vs2)) r (.tup [.int n, .ref T])) (.ref r) n us := ⟨r, T, vs2, rfl, upd_same, same_new nr _ _ upd_same, ties_tk (Same.tk s5) hp⟩
      refine ⟨.ref r, n, us, rfl, hW, wok2, fun H6 calm _ => absurd (fa us (by omega) rfl).odd calm, fun k' t' r1 rr a b qs' ms' H6 fb1 et' ring exa s6 h1 h2 h3 h4 => ?_⟩
      obtain rfl := fb1.one (fa us (by omega) rfl)
      exact ⟨.ref r1, qs', ms', rfl, ⟨r1, rr, a, b, t', rfl, et', ring, exa, h1, h2, h3, h4⟩, s5.trans s6⟩
    rintro σ' H11 ⟨v, qs, ms, rfl, fb, s11⟩
    have h811 := s11 _ _ h8
    have hp11 := ties_tk (Same.tk s11) hp
    have s011 := s10.trans s11
    clear h8 hp s10 s11
    -- and told again
    refine ⟨fun σ' H' => σ' = [some (.ref sc), some (.int n), some (.int cnt), some (.bl gb), some (.ref S), none, some (.ref L6), y77, some (.ref L8), y9, some (.ref R), some (.int k), some v] ∧ Same H11 H', ?_, ?_⟩
    · refine ⟨.int n, rfl, .ref L8, rfl, .int k, rfl, v, rfl, n, L8, vs2, us, us, k, v, qs, ms, rfl, h811, hp11, by omega, rfl, fb, fun H12 s12 => ⟨true, rfl, ?_⟩⟩
      have h812 := s12 _ _ h811
      have hp12 := ties_tk (Same.tk s12) hp11
      refine ⟨.int n, rfl, .ref L8, rfl, L8, vs2, rfl, .inl ⟨SqL.of h812, fun T nT => ⟨by show 2 ≤ sizeLine; decide, fun r nr => ?_⟩⟩⟩
      have s5 := (same_new (o := .tup vs2) nT).trans (same_new (o := .tup [.int n, .ref T]) nr)
      have hW : WebAt (upd (upd H12 T (.tup vs2)) r (.tup [.int n, .ref T])) (.ref r) n us := ⟨r, T, vs2, rfl, upd_same, same_new nr _ _ upd_same, ties_tk (Same.tk s5) hp12⟩
      refine ⟨.ref r, n, us, rfl, hW, wok2, fun H6 calm _ => absurd (fa us (by omega) rfl).odd calm, fun k' t' r1 rr a b qs' ms' H6 fb1 et' ring exa s6 h1 h2 h3 h4 => ?_⟩
      obtain rfl := fb1.one (fa us (by omega) rfl)
      have s116 := (s12.trans s5).trans s6
      have fb2 : FBAt H6 (.ref r1) n k' us qs' ms' := ⟨r1, rr, a, b, t', rfl, et', ring, exa, h1, h2, h3, h4⟩
      have fb3 := fb.tk (Same.tk s116)
      obtain ⟨rfl, rfl⟩ := fb2.one fb3
      refine ⟨v, rfl, ringD k' qs' ms', ringD k' qs' ms', fb2.dp, fb3.dp, shaped_ring _ _ _, shaped_ring _ _ _, _, rfl, ?_⟩
      rw [SeqAt.eqv_refl _ (lay_ring _ _ _)]
      exact ⟨rfl, s116⟩
    rintro σ' H12 ⟨rfl, s12⟩
    have h812 := s12 _ _ h811
    have hp12 := ties_tk (Same.tk s12) hp11
    have s012 := s011.trans s12
    clear h811 hp11 s011 s12 fb
    -- the first ties alone
    have ek : ((k : Nat) : Int) + 1 = ((k + 1 : Nat) : Int) := by omega
    refine ⟨fun σ' H' => σ' = [some (.ref sc), some (.int n), some (.int cnt), some (.bl gb), some (.ref S), none, some (.ref L6), y77, some (.ref L8), y9, some (.ref R), some (.int k), some v] ∧ Same H12 H', ?_, ?_⟩
    · refine ⟨.int n, rfl, .ref L8, rfl, .int k, rfl, .int n, rfl, .ref L8, rfl, .int k, rfl, k, 1, rfl, rfl, _, rfl, L8, vs2, rfl, SqL.of h812, fun Y nY => ?_⟩
      rw [ek, cut_take (by omega)]
      have sY := same_new (o := .lst (vs2.take (k + 1))) nY
      refine ⟨Y, _, rfl, .inl ⟨SqL.of upd_same, fun T nT => ⟨by show 2 ≤ sizeLine; decide, fun r nr => ?_⟩⟩⟩
      have s5 := (sY.trans (same_new (o := .tup (vs2.take (k + 1))) nT)).trans (same_new (o := .tup [.int n, .ref T]) nr)
      have hW : WebAt (upd (upd (upd H12 Y (.lst (vs2.take (k + 1)))) T (.tup (vs2.take (k + 1)))) r (.tup [.int n, .ref T])) (.ref r) n (us.take (k + 1)) := ⟨r, T, _, rfl, upd_same, same_new nr _ _ upd_same, Paired.cut _ (ties_tk (Same.tk s5) hp12)⟩
      have fa2 := fa (us.take (k + 1)) (by rw [List.length_take]; omega) (by rw [List.take_take, Nat.min_self])
      refine ⟨.ref r, n, us.take (k + 1), rfl, hW, ⟨wok2.lo, wok2.hi, by have := wok2.few; rw [List.length_take]; omega, ok_take oku _⟩, fun H6 calm _ => absurd fa2.odd calm, fun k' t' r1 rr a b qs' ms' H6 fb1 et' ring exa s6 h1 h2 h3 h4 => ?_⟩
      obtain rfl := fb1.one fa2
      have s116 := s5.trans s6
      exact ⟨n, L8, vs2, us, us.take (k' + 1), k', .ref r1, qs', ms', rfl, s116 _ _ h812, ties_tk (Same.tk s116) hp12, by omega, by rw [List.take_take, Nat.min_self], ⟨r1, rr, a, b, t', rfl, et', ring, exa, h1, h2, h3, h4⟩, fun H7 s7 => ⟨true, rfl, rfl, s116.trans s7⟩⟩
    rintro σ' H13 ⟨rfl, s13⟩
    have h813 := s13 _ _ h812
    have hp13 := ties_tk (Same.tk s13) hp12
    refine ⟨.int n, rfl, .ref L8, rfl, .int k, rfl, _, rfl, L8, vs2, rfl, SqL.of h813, fun Y nY => ?_⟩
    rw [cut_take (by omega)]
    have sY := same_new (o := .lst (vs2.take k)) nY
    refine ⟨Y, _, rfl, .inl ⟨SqL.of upd_same, fun T nT => ⟨by show 2 ≤ sizeLine; decide, fun r nr => ?_⟩⟩⟩
    have s5 := (sY.trans (same_new (o := .tup (vs2.take k)) nT)).trans (same_new (o := .tup [.int n, .ref T]) nr)
    have hW : WebAt (upd (upd (upd H13 Y (.lst (vs2.take k))) T (.tup (vs2.take k))) r (.tup [.int n, .ref T])) (.ref r) n (us.take k) := ⟨r, T, _, rfl, upd_same, same_new nr _ _ upd_same, Paired.cut _ (ties_tk (Same.tk s5) hp13)⟩
    have calm : ¬ Odd (us.take k) n := by
      rw [etk0]
      exact true_calm fun x hx => (ok x (List.mem_of_mem_take hx)).2
    refine ⟨.ref r, n, us.take k, rfl, hW, ⟨wok2.lo, wok2.hi, by have := wok2.few; rw [List.length_take]; omega, ok_take oku _⟩, fun H6 _ _ => ⟨rfl, q _⟩, fun k' t' r1 rr a b qs' ms' H6 fb1 => absurd fb1.odd calm⟩
end
/-! ### the end of a law whose defs hold generator expressions: their tables are empty behind the top -/
theorem walk_tabs {l : PySem.W.OpenLaw} {n k : Nat} {q : Program} {loose : List Str} {XP : (Str → Option Value) → Heap → Prop} {YP : World → Heap → Prop} {d : DefRec} {K : Params → PySem.W.Frag} {x : Str}
    (hn : l.most = some n) (hn2 : n ≤ sizeLine) (hdf : d.params.defaults = []) (hr : Room k callerA) (hY : ∀ (w : World) (h : Heap), YP w h → (K w.params).In h)
    (F : ∀ (w : World) (mg : Str → Option Value) (fa : Addr) (h : Heap), (K w.params).In h → h.Ns mainGlobals mg → mg d.name = some (.ref fa) →
      (∀ (y : Str) (fy : Addr), ((recsOf q).any fun e => e.name == y) = true → mg y = some (.ref fy) → LamX.OwnTab (K w.params) fy h) → LamX.LawAtS l w (K w.params) CX0 k n x mg fa h) :
    PySem.W.WalkO q loose XP YP l.row.toRowW d [] (fun f vs => PySem.call f vs) := by
  refine Att.attach_callB hn hdf fun w s₀ s₁ mg mb fa o pm cd doc a vs ns G Y ho hd hcd hmg hobj hints hlen hbits hg => ?_
  have KX := hY w _ Y
  have tabs : ∀ (y : Str) (fy : Addr), ((recsOf q).any fun e => e.name == y) = true → mg y = some (.ref fy) → LamX.OwnTab (K w.params) fy s₁.heap := fun y fy hy hm c P o1 fd1 e dd vs1 sl k1 k2 k3 k4 k5 => by
    obtain ⟨dL, hmem, hnm⟩ := List.any_eq_true.mp hy
    have hnm : dL.name = y := beq_iff_eq.mp hnm
    obtain ⟨a', o', fd', c', P', h1, h2, h3, h4, h5, h6⟩ := G.T.tab dL hmem
    rw [hnm, hm] at h1
    cases h1
    rw [KX _ _ k1] at h2
    cases h2
    rw [k2] at h3
    cases h3
    rw [k3] at h4
    cases h4
    obtain ⟨⟨oc, vc, e1, _, e3, e4⟩, hP⟩ := h6
    rw [KX _ _ k4] at e1
    cases e1
    cases e3
    rw [k5] at e4
    cases e4
    exact hP
  obtain ⟨fd, cs, sp, hT, nT, C, hb, hsp, hF⟩ := F w mg fa _ KX G.T.g hmg tabs
  exact LamX.law_callTs KX G.T.g G.T.b G.T.builtins G.T.nolimit hg hT nT C G.T.bmain hobj hints (Nat.le_trans hlen hn2) hr hF hb (fun H hH hS => hsp H a ns hlen hbits hH hS) fun H e s' z => z
/-- where a def stands, and where its code object does -/
structure At (K : PySem.W.Frag) (x : Str) (st : Stmt) (f : Addr) : Prop where
  ns : PySem.W.nsIn K mainGlobals x = some (some (.ref f))
  ex : ∃ (oc : Value) (od : Option Addr) (kV doc pm : Value) (an : Option Addr) (cdv ct : Value) (osl : Array (Option Value)),
    K.lookup f = some ⟨oc, od, .func (PySem.W.fnOf x x (defArgs st) (defBody st) (defScope st) .none kV doc pm an cdv ct), osl⟩ ∧ PySem.W.codeIn K cdv x = true
  kp : PySem.W.keepIn K (.ref f) = true
theorem at_mk {K : PySem.W.Frag} {x : Str} {st : Stmt} {f : Addr} {oc : Value} {od an : Option Addr} {osl : Array (Option Value)} {kV doc pm cdv ct : Value} (a : PySem.W.nsIn K mainGlobals x = some (some (.ref f)))
    (l : K.lookup f = some ⟨oc, od, .func (PySem.W.fnOf x x (defArgs st) (defBody st) (defScope st) .none kV doc pm an cdv ct), osl⟩) (c : PySem.W.codeIn K cdv x = true) (k : PySem.W.keepIn K (.ref f) = true) : At K x st f := ⟨a, ⟨oc, od, kV, doc, pm, an, cdv, ct, osl, l, c⟩, k⟩
theorem At.fn {K : PySem.W.Frag} {x : Str} {st : Stmt} {f : Addr} (h : At K x st f) : ∃ fd, Fun K x x st f fd := by
  obtain ⟨oc, od, kV, doc, pm, an, cdv, ct, osl, l, c⟩ := h.ex
  exact ⟨_, fun_mk l c h.kp⟩
section
variable {P : Program} {w : World} {K : PySem.W.Frag} {mg : Str → Option Value} {base : Heap}
theorem Df.of {x : Str} {st : Stmt} {f : Addr} {fd : FuncData} {k : Nat} {ps : List Str} {sp : Sp} (g : mg x = some (.ref f)) (F : Fun K x x st f fd) (G : FnOk P w K mg base CX0 k f fd ps sp)
    (h : ∀ (kV doc pm : Value) (an : Option Addr) (cdv ct : Value) (us : List Value), us.length = ps.length → bindArgs (PySem.W.fnOf x x (defArgs st) (defBody st) (defScope st) .none kV doc pm an cdv ct) ⟨us, []⟩ = pure (ps.zip us)) : Df P w K mg base k x ps sp :=
  ⟨f, fd, G, g, F.kp, F.binds h⟩
end
/-! ### a class at the top: its methods, itself -/
structure AtM (K : PySem.W.Frag) (C : Addr) (m q : Str) (st : Stmt) (f : Addr) : Prop where
  me : Meth K C m f
  ex : ∃ (oc : Value) (od : Option Addr) (kV doc pm : Value) (an : Option Addr) (cdv ct : Value) (osl : Array (Option Value)),
    K.lookup f = some ⟨oc, od, .func (PySem.W.fnOf m q (defArgs st) (defBody st) (defScope st) .none kV doc pm an cdv ct), osl⟩ ∧ PySem.W.codeIn K cdv q = true
theorem atM_mk {K : PySem.W.Frag} {C : Addr} {m q : Str} {st : Stmt} {f : Addr} {oc : Value} {od an : Option Addr} {osl : Array (Option Value)} {kV doc pm cdv ct : Value} (a : PySem.W.findIn K (.ref C) m = some (some (.ref f))) (i : PySem.W.isFn K (.ref f) = true)
    (l : K.lookup f = some ⟨oc, od, .func (PySem.W.fnOf m q (defArgs st) (defBody st) (defScope st) .none kV doc pm an cdv ct), osl⟩) (c : PySem.W.codeIn K cdv q = true) (k : PySem.W.keepIn K (.ref f) = true) : AtM K C m q st f := ⟨⟨a, i, k⟩, ⟨oc, od, kV, doc, pm, an, cdv, ct, osl, l, c⟩⟩
theorem AtM.fn {K : PySem.W.Frag} {C : Addr} {m q : Str} {st : Stmt} {f : Addr} (h : AtM K C m q st f) : ∃ fd, Fun K m q st f fd := by
  obtain ⟨oc, od, kV, doc, pm, an, cdv, ct, osl, l, c⟩ := h.ex
  exact ⟨_, fun_mk l c h.me.kp⟩
structure AtCl (K : PySem.W.Frag) (x : Str) (C : Addr) : Prop where
  ns : PySem.W.nsIn K mainGlobals x = some (some (.ref C))
  cl : Cls K C
  mks : PySem.W.makesIn K C = true
  kc : PySem.W.keepIn K (.ref C) = true
theorem atCl_mk {K : PySem.W.Frag} {x : Str} {C : Addr} (a : PySem.W.nsIn K mainGlobals x = some (some (.ref C))) (pg : PySem.W.plainGet K C Str.empty = true) (hd : PySem.W.hasDictIn K C = true) (po : PySem.W.plainOver K C = true) (sa : PySem.W.findIn K (.ref C) "__setattr__" = some (some (.builtin "object.__setattr__"))) (mk : PySem.W.makesIn K C = true) (kc : PySem.W.keepIn K (.ref C) = true) : AtCl K x C := ⟨a, ⟨pg, hd, po, sa⟩, mk, kc⟩
/-! ### what the top has written -/
section
variable {P : Program} {w : World} {K : PySem.W.Frag} {mg : Str → Option Value} {base : Heap}
theorem law_at {l : PySem.W.OpenLaw} {w : World} {K : PySem.W.Frag} {h : Heap} {mg : Str → Option Value} {fa f0 f1 f2 f3 f4 f5 f6 f7 f8 f9 f10 f11 f12 f13 f14 f15 f16  C0 m0_0 m0_1 m0_2 : Addr} (X : K.In h) (G : h.Ns mainGlobals mg) (hfa : mg "law" = some (.ref fa))
    
    (a0 : At K "foes_in" s_foes_in f0)
    (a1 : At K "ties_around" s_ties_around f1)
    (a2 : At K "walk_from" s_walk_from f2)
    (a3 : At K "way_to" s_way_to f3)
    (a4 : At K "first_broken" s_first_broken f4)
    (a5 : At K "_law_cell_at" s_l_cell_at f5)
    (a6 : At K "_law_draw" s_l_draw f6)
    (a7 : At K "_law_many" s_l_many f7)
    (a8 : At K "_law_pair" s_l_pair f8)
    (a9 : At K "_law_groups" s_l_groups f9)
    (a10 : At K "_law_whole" s_l_whole f10)
    (a11 : At K "_law_ring_right" s_l_ring_right f11)
    (a12 : At K "_law_kind" s_l_kind f12)
    (a13 : At K "_law_other" s_l_other f13)
    (a14 : At K "_law_led" s_l_led f14)
    (a15 : At K "_law_is_told" s_l_is_told f15)
    (a16 : At K "law" s_law f16)
    (z0 : PySem.W.nsIn K mainGlobals "len" = some none)
    (z1 : PySem.W.nsIn K mainGlobals "int" = some none)
    (z2 : PySem.W.nsIn K mainGlobals "bool" = some none)
    (z3 : PySem.W.nsIn K mainGlobals "str" = some none)
    (z4 : PySem.W.nsIn K mainGlobals "list" = some none)
    (z5 : PySem.W.nsIn K mainGlobals "tuple" = some none)
    (z6 : PySem.W.nsIn K mainGlobals "range" = some none)
    (z7 : PySem.W.nsIn K mainGlobals "isinstance" = some none)
    (z8 : PySem.W.nsIn K mainGlobals "sum" = some none)
    (z9 : PySem.W.nsIn K mainGlobals "abs" = some none)
    (z10 : PySem.W.nsIn K mainGlobals "sorted" = some none)
    (z11 : PySem.W.nsIn K mainGlobals "enumerate" = some none)
    (z12 : PySem.W.nsIn K mainGlobals "set" = some none)
    (cl0 : AtCl K "Stand" C0)
    (na0_many : PySem.W.findIn K (.ref C0) "many" = some none)
    (na0_ties : PySem.W.findIn K (.ref C0) "ties" = some none)
    (na0_kept : PySem.W.findIn K (.ref C0) "kept" = some none)
    (na0_lost : PySem.W.findIn K (.ref C0) "lost" = some none)
    (am0_0 : AtM K C0 "__init__" "Stand.__init__" s_Stand_init m0_0)
    (am0_1 : AtM K C0 "web" "Stand.web" s_Stand_web m0_1)
    (am0_2 : AtM K C0 "come" "Stand.come" s_Stand_come m0_2) :
    LamX.LawAtS l w K CX0 5 63 "_law_script" mg fa h := by
  have efa := hfa.symm.trans (PySem.W.mg_of X G a16.ns)
  cases efa
  have M : Free mg := ⟨PySem.W.mg_none_of X G z0, PySem.W.mg_none_of X G z1, PySem.W.mg_none_of X G z2, PySem.W.mg_none_of X G z3, PySem.W.mg_none_of X G z4, PySem.W.mg_none_of X G z5, PySem.W.mg_none_of X G z6, PySem.W.mg_none_of X G z7, PySem.W.mg_none_of X G z8⟩
  have m_abs := PySem.W.mg_none_of X G z9
  have m_sorted := PySem.W.mg_none_of X G z10
  have m_enumerate := PySem.W.mg_none_of X G z11
  have m_set := PySem.W.mg_none_of X G z12
  obtain ⟨d0, F0⟩ := a0.fn
  obtain ⟨d1, F1⟩ := a1.fn
  obtain ⟨d2, F2⟩ := a2.fn
  obtain ⟨d3, F3⟩ := a3.fn
  obtain ⟨d4, F4⟩ := a4.fn
  obtain ⟨d5, F5⟩ := a5.fn
  obtain ⟨d6, F6⟩ := a6.fn
  obtain ⟨d7, F7⟩ := a7.fn
  obtain ⟨d8, F8⟩ := a8.fn
  obtain ⟨d9, F9⟩ := a9.fn
  obtain ⟨d10, F10⟩ := a10.fn
  obtain ⟨d11, F11⟩ := a11.fn
  obtain ⟨d12, F12⟩ := a12.fn
  obtain ⟨d13, F13⟩ := a13.fn
  obtain ⟨d14, F14⟩ := a14.fn
  obtain ⟨d15, F15⟩ := a15.fn
  obtain ⟨d16, F16⟩ := a16.fn
  have g0 := PySem.W.mg_of X G a0.ns
  have g1 := PySem.W.mg_of X G a1.ns
  have g2 := PySem.W.mg_of X G a2.ns
  have g3 := PySem.W.mg_of X G a3.ns
  have g4 := PySem.W.mg_of X G a4.ns
  have g5 := PySem.W.mg_of X G a5.ns
  have g6 := PySem.W.mg_of X G a6.ns
  have g7 := PySem.W.mg_of X G a7.ns
  have g8 := PySem.W.mg_of X G a8.ns
  have g9 := PySem.W.mg_of X G a9.ns
  have g10 := PySem.W.mg_of X G a10.ns
  have g11 := PySem.W.mg_of X G a11.ns
  have g12 := PySem.W.mg_of X G a12.ns
  have g13 := PySem.W.mg_of X G a13.ns
  have g14 := PySem.W.mg_of X G a14.ns
  have g15 := PySem.W.mg_of X G a15.ns
  have hb0 : ∀ (s : Shared) (u : Value), BindsTo s d16 ⟨[u], []⟩ [("_law_script", u)] := by
    obtain ⟨oc, od, kV, doc, pm, an, cdv, ct, osl, rfl, _⟩ := F16.ex
    exact fun s u => .of_eq rfl
  refine ⟨d16, [], (spLawS K), (fun p hp => by simp at hp), (fun p hp => by simp at hp), (fun p hp => by simp at hp), hb0, fun H a ns hl _ hT hS => ⟨a, ns, rfl, hS, hl, fun _ => rfl⟩, fun base KB GB TB => ?_⟩
  have TC0 : STx K C0 := ⟨cl0.cl, na0_many, na0_ties, na0_kept, na0_lost⟩
  obtain ⟨dm0_0, Fm0_0⟩ := am0_0.fn
  obtain ⟨dm0_1, Fm0_1⟩ := am0_1.fn
  obtain ⟨dm0_2, Fm0_2⟩ := am0_2.fn
  have D0 : Df l.prog w K mg base 1 "foes_in" ["web", "ring"] spFoesIn := .of g0 F0 (ok_foes_in F0 M) fun _ _ _ _ _ _ us hl => match us, hl with | [_, _], _ => rfl
  have D1 : Df l.prog w K mg base 1 "ties_around" ["web", "numbers"] spAround := .of g1 F1 (ok_ties_around F1) fun _ _ _ _ _ _ us hl => match us, hl with | [_, _], _ => rfl
  have D2 : Df l.prog w K mg base 1 "walk_from" ["start", "around"] spWalkFrom := .of g2 F2 (ok_walk_from F2 ) fun _ _ _ _ _ _ us hl => match us, hl with | [_, _], _ => rfl
  have D3 : Df l.prog w K mg base 1 "way_to" ["end", "walk"] spWayTo := .of g3 F3 (ok_way_to F3 M) fun _ _ _ _ _ _ us hl => match us, hl with | [_, _], _ => rfl
  have Gi0 : FnOk l.prog w K mg base CX0 1 m0_0 dm0_0 ["self", "many"] (spSInit C0) := ok_S_init Fm0_0 TC0
  have bi0 : Binds K dm0_0 ["self", "many"] [] := Fm0_0.binds (ps := ["self", "many"]) fun _ _ _ _ _ _ us hl => match us, hl with | [_, _], _ => rfl
  have E_web : DfM l.prog w K mg base 1 C0 "web" ["self"] (spSWeb C0) := ⟨m0_1, dm0_1, ok_S_web Fm0_1 TC0 M, am0_1.me, Fm0_1.binds (ps := ["self"]) fun _ _ _ _ _ _ us hl => match us, hl with | [_], _ => rfl⟩
  have E_come : DfM l.prog w K mg base 2 C0 "come" ["self", "one", "other", "kind"] (spSCome C0) := ⟨m0_2, dm0_2, ok_S_come Fm0_2 TC0 M E_web D1 D2 D3 D0, am0_2.me, Fm0_2.binds (ps := ["self", "one", "other", "kind"]) fun _ _ _ _ _ _ us hl => match us, hl with | [_, _, _, _], _ => rfl⟩
  have D4 : Df l.prog w K mg base 3 "first_broken" ["web"] spFB := .of g4 F4 (ok_first_broken F4 TC0 m_enumerate (PySem.W.mg_of X G cl0.ns) ⟨cl0.mks, am0_0.me.at_, am0_0.me.fn, cl0.kc⟩ Gi0 bi0 E_come) fun _ _ _ _ _ _ us hl => match us, hl with | [_], _ => rfl
  have D5 : Df l.prog w K mg base 1 "_law_cell_at" ["_law_script", "_law_k"] (spCell K) := .of g5 F5 (ok_l_cell_at F5 M) fun _ _ _ _ _ _ us hl => match us, hl with | [_, _], _ => rfl
  have D6 : Df l.prog w K mg base 1 "_law_draw" ["_law_well", "_law_many_here"] spDraw := .of g6 F6 (ok_l_draw F6 m_abs) fun _ _ _ _ _ _ us hl => match us, hl with | [_, _], _ => rfl
  have D7 : Df l.prog w K mg base 2 "_law_many" ["_law_script"] (spMany35 K) := .of g7 F7 (ok_l_many F7 M D5 D6) fun _ _ _ _ _ _ us hl => match us, hl with | [_], _ => rfl
  have D8 : Df l.prog w K mg base 2 "_law_pair" ["_law_script", "_law_k", "_law_many_here", "_law_pairs", "_law_goes_round"] (spPair K) := .of g8 F8 (ok_l_pair F8 M D5 D6) fun _ _ _ _ _ _ us hl => match us, hl with | [_, _, _, _, _], _ => rfl
  have D9 : Df l.prog w K mg base 1 "_law_groups" ["_law_many_here", "_law_ties"] spLGroups := .of g9 F9 (ok_l_groups F9 M m_sorted) fun _ _ _ _ _ _ us hl => match us, hl with | [_, _], _ => rfl
  have D10 : Df l.prog w K mg base 1 "_law_whole" ["_law_thing"] spWhole := .of g10 F10 (ok_l_whole F10 M) fun _ _ _ _ _ _ us hl => match us, hl with | [_], _ => rfl
  have D11 : Df l.prog w K mg base 2 "_law_ring_right" ["_law_many_here", "_law_ties", "_law_tie", "_law_told"] spRing := .of g11 F11 (ok_l_ring_right F11 M m_enumerate m_set m_sorted D10) fun _ _ _ _ _ _ us hl => match us, hl with | [_, _, _, _], _ => rfl
  have D12 : Df l.prog w K mg base 1 "_law_kind" ["_law_sides", "_law_pair_here"] spKind34 := .of g12 F12 (ok_l_kind F12 M) fun _ _ _ _ _ _ us hl => match us, hl with | [_, _], _ => rfl
  have D13 : Df l.prog w K mg base 1 "_law_other" ["_law_kind_here"] spOther34 := .of g13 F13 (ok_l_other F13 M) fun _ _ _ _ _ _ us hl => match us, hl with | [_], _ => rfl
  have D14 : Df l.prog w K mg base 2 "_law_led" ["_law_many_here", "_law_ties"] spLed34 := .of g14 F14 (ok_l_led F14 M D9) fun _ _ _ _ _ _ us hl => match us, hl with | [_, _], _ => rfl
  have D15 : Df l.prog w K mg base 3 "_law_is_told" ["_law_many_here", "_law_ties", "_law_number", "_law_told"] spTold34 := .of g15 F15 (ok_l_is_told F15 M D10 D11) fun _ _ _ _ _ _ us hl => match us, hl with | [_, _, _, _], _ => rfl
  exact ok_law F16 M D7 D5 D6 D8 D12 D4 D14 D13 D15
end
end FF
open PySem PySem.W PyProof.Rows
set_option maxRecDepth 100000 in
set_option maxHeartbeats 0 in
theorem PySem.Challenge.cw_friendfoe_k34_first_ties_known_holds : PySem.Challenge.rw_friendfoe_k34_first_ties_known.Holds := by
  w_on; o_law; k_head; (case hw => w_witness2)
  k_fill
  refine FF.walk_tabs (l := PySem.Challenge.rw_friendfoe_k34_first_ties_known) (n := 63) (k := 5) (x := "_law_script") rfl (by decide) rfl ⟨rfl, by decide, by decide⟩ (fun w h Y => PySem.W.kIn_of Y) ?F
  case F =>
    intro w mg fa h KX G hmg tabs
    refine' FF.law_at KX G hmg  ?a0 ?a1 ?a2 ?a3 ?a4 ?a5 ?a6 ?a7 ?a8 ?a9 ?a10 ?a11 ?a12 ?a13 ?a14 ?a15 ?a16 ?z0 ?z1 ?z2 ?z3 ?z4 ?z5 ?z6 ?z7 ?z8 ?z9 ?z10 ?z11 ?z12 ?cl0 ?na0_many ?na0_ties ?na0_kept ?na0_lost ?am0_0 ?am0_1 ?am0_2
    (case a0 => refine' FF.at_mk ?p1 ?p2 ?p3 ?p4; (case p1 => k_is); (case p2 => k_is); (case p3 => k_is); (case p4 => k_is))
    (case a1 => refine' FF.at_mk ?p1 ?p2 ?p3 ?p4; (case p1 => k_is); (case p2 => k_is); (case p3 => k_is); (case p4 => k_is))
    (case a2 => refine' FF.at_mk ?p1 ?p2 ?p3 ?p4; (case p1 => k_is); (case p2 => k_is); (case p3 => k_is); (case p4 => k_is))
    (case a3 => refine' FF.at_mk ?p1 ?p2 ?p3 ?p4; (case p1 => k_is); (case p2 => k_is); (case p3 => k_is); (case p4 => k_is))
    (case a4 => refine' FF.at_mk ?p1 ?p2 ?p3 ?p4; (case p1 => k_is); (case p2 => k_is); (case p3 => k_is); (case p4 => k_is))
    (case a5 => refine' FF.at_mk ?p1 ?p2 ?p3 ?p4; (case p1 => k_is); (case p2 => k_is); (case p3 => k_is); (case p4 => k_is))
    (case a6 => refine' FF.at_mk ?p1 ?p2 ?p3 ?p4; (case p1 => k_is); (case p2 => k_is); (case p3 => k_is); (case p4 => k_is))
    (case a7 => refine' FF.at_mk ?p1 ?p2 ?p3 ?p4; (case p1 => k_is); (case p2 => k_is); (case p3 => k_is); (case p4 => k_is))
    (case a8 => refine' FF.at_mk ?p1 ?p2 ?p3 ?p4; (case p1 => k_is); (case p2 => k_is); (case p3 => k_is); (case p4 => k_is))
    (case a9 => refine' FF.at_mk ?p1 ?p2 ?p3 ?p4; (case p1 => k_is); (case p2 => k_is); (case p3 => k_is); (case p4 => k_is))
    (case a10 => refine' FF.at_mk ?p1 ?p2 ?p3 ?p4; (case p1 => k_is); (case p2 => k_is); (case p3 => k_is); (case p4 => k_is))
    (case a11 => refine' FF.at_mk ?p1 ?p2 ?p3 ?p4; (case p1 => k_is); (case p2 => k_is); (case p3 => k_is); (case p4 => k_is))
    (case a12 => refine' FF.at_mk ?p1 ?p2 ?p3 ?p4; (case p1 => k_is); (case p2 => k_is); (case p3 => k_is); (case p4 => k_is))
    (case a13 => refine' FF.at_mk ?p1 ?p2 ?p3 ?p4; (case p1 => k_is); (case p2 => k_is); (case p3 => k_is); (case p4 => k_is))
    (case a14 => refine' FF.at_mk ?p1 ?p2 ?p3 ?p4; (case p1 => k_is); (case p2 => k_is); (case p3 => k_is); (case p4 => k_is))
    (case a15 => refine' FF.at_mk ?p1 ?p2 ?p3 ?p4; (case p1 => k_is); (case p2 => k_is); (case p3 => k_is); (case p4 => k_is))
    (case a16 => refine' FF.at_mk ?p1 ?p2 ?p3 ?p4; (case p1 => k_is); (case p2 => k_is); (case p3 => k_is); (case p4 => k_is))
    (case z0 => k_is)
    (case z1 => k_is)
    (case z2 => k_is)
    (case z3 => k_is)
    (case z4 => k_is)
    (case z5 => k_is)
    (case z6 => k_is)
    (case z7 => k_is)
    (case z8 => k_is)
    (case z9 => k_is)
    (case z10 => k_is)
    (case z11 => k_is)
    (case z12 => k_is)
    (case cl0 => refine' FF.atCl_mk ?q1 ?q2 ?q3 ?q4 ?q5 ?q6 ?q7; (case q1 => k_is); (case q2 => k_is); (case q3 => k_is); (case q4 => k_is); (case q5 => k_is); (case q6 => k_is); (case q7 => k_is))
    (case na0_many => k_is)
    (case na0_ties => k_is)
    (case na0_kept => k_is)
    (case na0_lost => k_is)
    (case am0_0 => refine' FF.atM_mk ?q1 ?q2 ?q3 ?q4 ?q5; (case q1 => k_is); (case q2 => k_is); (case q3 => k_is); (case q4 => k_is); (case q5 => k_is))
    (case am0_1 => refine' FF.atM_mk ?q1 ?q2 ?q3 ?q4 ?q5; (case q1 => k_is); (case q2 => k_is); (case q3 => k_is); (case q4 => k_is); (case q5 => k_is))
    (case am0_2 => refine' FF.atM_mk ?q1 ?q2 ?q3 ?q4 ?q5; (case q1 => k_is); (case q2 => k_is); (case q3 => k_is); (case q4 => k_is); (case q5 => k_is))
