import PyProof.Rows.All
import Wide.All
import OpenK.AllK
import Wide.FinOn
import HandS.ForMost
import HandS.IsInst
import HandS.TupAny
import HandS.TupLe
import HandS.Wide
import HandS.Style
import HandS.SortInts
import HandS.Conv
import HandS.More
import HandS.EndTab
import HandS.EndOwn
import HandS.AnyAll
import HandS.GenOver
import HandS.Evl
import HandS.Walk
import HandS.NoneIn
import HandS.Zip
import HandS.DictComp
import HandS.SetFor
import KE.GoesEnum
import HandS.TupMul
import HandS.Strs
import KE.DataMinMax
import HandS.ForExc
import HandS.ExcIs
import HandS.SetKeys
import KE.DatumOrd
import HandS.Remove
import HandS.SortRule
import KE.KDictCopyH
import KE.KDictSum
import HandS.Defaults
import PySem.Challenge.RW_friendfoe_k53_flat_orders
set_option Elab.async false
set_option linter.all false
set_option maxRecDepth 100000
namespace FF
open PySem PySem.Spec PyProof.Rows L2
/-! ### heaps: what is kept -/
/-- all that is tracked, but at d and c, is as it was -/
def Kp (d c : Addr) (H H' : Hp) : Prop := ∀ b o, b ≠ d → b ≠ c → H b = some o → H' b = some o
theorem Kp.refl {d c : Addr} {H : Hp} : Kp d c H H := fun _ _ _ _ h => h
theorem Kp.trans {d c : Addr} {H H1 H2 : Hp} (a : Kp d c H H1) (b : Kp d c H1 H2) : Kp d c H H2 := fun x o h1 h2 h => b x o h1 h2 (a x o h1 h2 h)
theorem Kp.at_d {d c : Addr} {H : Hp} {o : HO} : Kp d c H (upd H d o) := fun b u h1 _ h => by rw [upd_ne h1]; exact h
theorem Kp.at_c {d c : Addr} {H : Hp} {o : HO} : Kp d c H (upd H c o) := fun b u _ h2 h => by rw [upd_ne h2]; exact h
theorem Kp.new {d c p : Addr} {H : Hp} {o : HO} (hp : H p = none) : Kp d c H (upd H p o) := fun b u _ _ h => by rw [upd_ne (ne_of_none h hp)]; exact h
theorem same_new {H : Hp} {p : Addr} {o : HO} (h : H p = none) : Same H (upd H p o) := fun b x e => by
  rw [upd_ne (ne_of_none e h)]
  exact e
theorem Same.kp {d c : Addr} {H H' : Hp} (s : Same H H') : Kp d c H H' := fun b o _ _ h => s b o h
/-! ### defs as they are called -/
def Df (P : Program) (w : World) (K : PySem.W.Frag) (mg : Str → Option Value) (base : Heap) (k : Nat) (x : Str) (ps : List Str) (sp : Sp) : Prop :=
  ∃ (f : Addr) (fd : FuncData), FnOk P w K mg base CX0 k f fd ps sp ∧ mg x = some (.ref f) ∧ PySem.W.keepIn K (.ref f) = true ∧ Binds K fd ps []
/-- built-in names that the module has not taken -/
structure Free (mg : Str → Option Value) : Prop where
  len : mg "len" = none
  int : mg "int" = none
  bool : mg "bool" = none
  str : mg "str" = none
  list : mg "list" = none
  tuple : mg "tuple" = none
  range : mg "range" = none
  isinstance : mg "isinstance" = none
  sum : mg "sum" = none
theorem mod_rng {a m : Int} (h : 0 < m) : 0 ≤ a % m ∧ a % m < m := ⟨Int.emod_nonneg a (by omega), Int.emod_lt_of_pos a h⟩
def topS (i : Nat) : Stmt := PySem.Challenge.pw_friendfoe_k53_flat_orders.main.body.getD i (.Pass ⟨0, 0, 0, 0⟩)
abbrev s_neighbours : Stmt := topS 1
abbrev N_neighbours : List Str := ["web", "many", "ties", "around", "place", "one", "other", "kind"]
theorem sc_neighbours : FnScope N_neighbours ["web"] (defScope s_neighbours) := ⟨rfl, rfl, rfl, by decide +kernel, rfl, by decide +kernel, by decide +kernel⟩
abbrev s_sides_from : Stmt := topS 2
abbrev N_sides_from : List Str := ["start", "around", "sides", "waiting", "place", "other", "kind"]
theorem sc_sides_from : FnScope N_sides_from ["start", "around"] (defScope s_sides_from) := ⟨rfl, rfl, rfl, by decide +kernel, rfl, by decide +kernel, by decide +kernel⟩
abbrev s_parts_of : Stmt := topS 3
abbrev N_parts_of : List Str := ["web", "around", "parts", "placed", "start", "part"]
theorem sc_parts_of : FnScope N_parts_of ["web"] (defScope s_parts_of) := ⟨rfl, rfl, rfl, by decide +kernel, rfl, by decide +kernel, by decide +kernel⟩
abbrev s_ties_within : Stmt := topS 4
abbrev N_ties_within : List Str := ["web", "part", "number", "tie"]
theorem sc_ties_within : FnScope N_ties_within ["web", "part"] (defScope s_ties_within) := ⟨rfl, rfl, rfl, by decide +kernel, rfl, by decide +kernel, by decide +kernel⟩
abbrev s_steps_behind : Stmt := topS 6
abbrev N_steps_behind : List Str := ["web", "orders", "behind", "place", "row", "tie", "following", "one", "other", "kind"]
theorem sc_steps_behind : FnScope N_steps_behind ["web", "orders"] (defScope s_steps_behind) := ⟨rfl, rfl, rfl, by decide +kernel, rfl, by decide +kernel, by decide +kernel⟩
abbrev s_face_from : Stmt := topS 7
abbrev N_face_from : List Str := ["first", "behind", "face"]
theorem sc_face_from : FnScope N_face_from ["first", "behind"] (defScope s_face_from) := ⟨rfl, rfl, rfl, by decide +kernel, rfl, by decide +kernel, by decide +kernel⟩
abbrev s_faces_of : Stmt := topS 8
abbrev N_faces_of : List Str := ["web", "orders", "behind", "faces", "placed", "step", "face", "other"]
theorem sc_faces_of : FnScope N_faces_of ["web", "orders"] (defScope s_faces_of) := ⟨rfl, rfl, rfl, by decide +kernel, rfl, by decide +kernel, by decide +kernel⟩
abbrev s_are_flat_faces : Stmt := topS 9
abbrev N_are_flat_faces : List Str := ["web", "faces", "part", "ties", "own", "face"]
theorem sc_are_flat_faces : FnScope N_are_flat_faces ["web", "faces"] (defScope s_are_flat_faces) := ⟨rfl, rfl, rfl, by decide +kernel, rfl, by decide +kernel, by decide +kernel⟩
abbrev s_are_flat : Stmt := topS 10
abbrev N_are_flat : List Str := ["web", "orders"]
theorem sc_are_flat : FnScope N_are_flat ["web", "orders"] (defScope s_are_flat) := ⟨rfl, rfl, rfl, by decide +kernel, rfl, by decide +kernel, by decide +kernel⟩
abbrev s_l_mixed : Stmt := topS 12
abbrev N_l_mixed : List Str := ["_law_number"]
theorem sc_l_mixed : FnScope N_l_mixed ["_law_number"] (defScope s_l_mixed) := ⟨rfl, rfl, rfl, by decide +kernel, rfl, by decide +kernel, by decide +kernel⟩
abbrev s_l_deck : Stmt := topS 13
abbrev N_l_deck : List Str := ["_law_script", "_law_deck_here", "_law_last", "_law_k"]
theorem sc_l_deck : FnScope N_l_deck ["_law_script"] (defScope s_l_deck) := ⟨rfl, rfl, rfl, by decide +kernel, rfl, by decide +kernel, by decide +kernel⟩
abbrev s_l_take : Stmt := topS 14
abbrev N_l_take : List Str := ["_law_deck_here", "_law_most", "_law_cell"]
theorem sc_l_take : FnScope N_l_take ["_law_deck_here", "_law_most"] (defScope s_l_take) := ⟨rfl, rfl, rfl, by decide +kernel, rfl, by decide +kernel, by decide +kernel⟩
abbrev s_l_corners : Stmt := topS 15
abbrev N_l_corners : List Str := ["_law_ties", "_law_orders", "_law_place", "_law_at", "_law_found", "_law_here", "_law_k", "_law_tie", "_law_there"]
theorem sc_l_corners : FnScope N_l_corners ["_law_ties", "_law_orders", "_law_place", "_law_at"] (defScope s_l_corners) := ⟨rfl, rfl, rfl, by decide +kernel, rfl, by decide +kernel, by decide +kernel⟩
abbrev s_l_grown : Stmt := topS 16
abbrev N_l_grown : List Str := ["_law_deck_here", "_law_most", "_law_many_ties", "_law_orders", "_law_ties", "_law_k", "_law_way", "_law_place", "_law_at", "_law_others", "_law_corner", "_law_other", "_law_there"]
theorem sc_l_grown : FnScope N_l_grown ["_law_deck_here", "_law_most", "_law_many_ties"] (defScope s_l_grown) := ⟨rfl, rfl, rfl, by decide +kernel, rfl, by decide +kernel, by decide +kernel⟩
abbrev s_l_turned : Stmt := topS 17
abbrev N_l_turned : List Str := ["_law_deck_here", "_law_orders", "_law_found", "_law_order", "_law_at"]
theorem sc_l_turned : FnScope N_l_turned ["_law_deck_here", "_law_orders"] (defScope s_l_turned) := ⟨rfl, rfl, rfl, by decide +kernel, rfl, by decide +kernel, by decide +kernel⟩
abbrev s_l_web : Stmt := topS 18
abbrev N_l_web : List Str := ["_law_deck_here", "_law_ties", "_law_places", "_law_found", "_law_one", "_law_other", "_law_kind"]
theorem sc_l_web : FnScope N_l_web ["_law_deck_here", "_law_ties", "_law_places"] (defScope s_l_web) := ⟨rfl, rfl, rfl, by decide +kernel, rfl, by decide +kernel, by decide +kernel⟩
abbrev s_l_crossed : Stmt := topS 19
abbrev N_l_crossed : List Str := ["_law_deck_here", "_law_orders", "_law_wide", "_law_place", "_law_at", "_law_to", "_law_order"]
theorem sc_l_crossed : FnScope N_l_crossed ["_law_deck_here", "_law_orders"] (defScope s_l_crossed) := ⟨rfl, rfl, rfl, by decide +kernel, rfl, by decide +kernel, by decide +kernel⟩
abbrev s_l_behind : Stmt := topS 20
abbrev N_l_behind : List Str := ["_law_web_here", "_law_orders", "_law_step", "_law_one", "_law_other", "_law_kind", "_law_place", "_law_order", "_law_k"]
theorem sc_l_behind : FnScope N_l_behind ["_law_web_here", "_law_orders", "_law_step"] (defScope s_l_behind) := ⟨rfl, rfl, rfl, by decide +kernel, rfl, by decide +kernel, by decide +kernel⟩
abbrev s_l_part_of : Stmt := topS 21
abbrev N_l_part_of : List Str := ["_law_web_here", "_law_found", "_law_turn", "_law_one", "_law_other", "_law_kind", "_law_least"]
theorem sc_l_part_of : FnScope N_l_part_of ["_law_web_here"] (defScope s_l_part_of) := ⟨rfl, rfl, rfl, by decide +kernel, rfl, by decide +kernel, by decide +kernel⟩
abbrev s_l_is_flat : Stmt := topS 22
abbrev N_l_is_flat : List Str := ["_law_web_here", "_law_orders", "_law_part_of_here", "_law_counts", "_law_place", "_law_known", "_law_tied", "_law_number", "_law_tie", "_law_here", "_law_k", "_law_part"]
theorem sc_l_is_flat : FnScope N_l_is_flat ["_law_web_here", "_law_orders"] (defScope s_l_is_flat) := ⟨rfl, rfl, rfl, by decide +kernel, rfl, by decide +kernel, by decide +kernel⟩
abbrev s_l_mingled : Stmt := topS 23
abbrev N_l_mingled : List Str := ["_law_deck_here", "_law_orders", "_law_found", "_law_order", "_law_left", "_law_row"]
theorem sc_l_mingled : FnScope N_l_mingled ["_law_deck_here", "_law_orders"] (defScope s_l_mingled) := ⟨rfl, rfl, rfl, by decide +kernel, rfl, by decide +kernel, by decide +kernel⟩
abbrev s_l_right : Stmt := topS 24
abbrev N_l_right : List Str := ["_law_web_here", "_law_orders", "_law_due", "_law_found"]
theorem sc_l_right : FnScope N_l_right ["_law_web_here", "_law_orders", "_law_due"] (defScope s_l_right) := ⟨rfl, rfl, rfl, by decide +kernel, rfl, by decide +kernel, by decide +kernel⟩
abbrev s_law : Stmt := topS 25
abbrev N_law : List Str := ["_law_script", "_law_deck_here", "_law_turn", "_law_great", "_law_most", "_law_ties", "_law_orders", "_law_web_here", "_law_k", "_law_here", "_law_due", "_law_order"]
theorem sc_law : FnScope N_law ["_law_script"] (defScope s_law) := ⟨rfl, rfl, rfl, by decide +kernel, rfl, by decide +kernel, by decide +kernel⟩
/-! ### own rules: a list against [] -/
section
variable {X : Cx}
def rEqE (K : PySem.W.Frag) : R2 := fun x y H Q => ∃ (a b : Addr) (xs : List V), x = .ref a ∧ y = .ref b ∧ SqL K H a xs ∧ SqL K H b [] ∧ Q (.bl xs.isEmpty) H
def rNeE (K : PySem.W.Frag) : R2 := fun x y H Q => ∃ (a b : Addr) (xs : List V), x = .ref a ∧ y = .ref b ∧ SqL K H a xs ∧ SqL K H b [] ∧ Q (.bl (!xs.isEmpty)) H
theorem op_eqE (hu : X.A.units < cLine) : OpR X (compareOp .Eq) (rEqE X.K) := by
  intro pins s σ H x y v u Q I rx ry h
  obtain ⟨a, b, xs, rfl, rfl, ha, hb, q⟩ := h
  obtain rfl : v = Value.ref a := rx
  obtain rfl : u = Value.ref b := ry
  obtain ⟨its, r1, p1, _⟩ := I.list ha
  obtain ⟨its2, r2, p2, _⟩ := I.list hb
  cases r2
  cases xs with
  | nil =>
    cases r1
    exact SeqAt.eq_listAt (e := fun _ => true) p1.isList p2.isList rfl hu (fun j h1 _ => absurd h1 (by simp)) ⟨.bl true, H, I, rfl, q⟩
  | cons z zs =>
    cases r1 with
    | cons r t => exact SeqAt.eq_list_lengthsAt p1.isList p2.isList (by simp) hu ⟨.bl false, H, I, rfl, q⟩
theorem op_neE (hu : X.A.units < cLine) : OpR X (compareOp .NotEq) (rNeE X.K) := by
  intro pins s σ H x y v u Q I rx ry h
  obtain ⟨a, b, xs, rfl, rfl, ha, hb, q⟩ := h
  obtain rfl : v = Value.ref a := rx
  obtain rfl : u = Value.ref b := ry
  obtain ⟨its, r1, p1, _⟩ := I.list ha
  obtain ⟨its2, r2, p2, _⟩ := I.list hb
  cases r2
  cases xs with
  | nil =>
    cases r1
    exact SeqAt.RcNeAt.lists (e := fun _ => true) p1.isList p2.isList rfl hu (fun j h1 _ => absurd h1 (by simp)) _ _ _ _ ⟨.bl false, H, I, rfl, q⟩
  | cons z zs =>
    cases r1 with
    | cons r t => exact SeqAt.RcNeAt.lists_lengths p1.isList p2.isList (by simp) hu _ _ _ _ ⟨.bl true, H, I, rfl, q⟩
end
section
variable {P : Program} {w : World} {K : PySem.W.Frag} {mg : Str → Option Value} {base : Heap}
/-! ### webs -/
structure Tie where
  one : Int
  other : Int
  foe : Bool
def kindS : Bool → Str
  | true => "foe"
  | false => "friend"
def TieV (H : Hp) (v : V) (t : Tie) : Prop := ∃ a, v = .ref a ∧ H a = some (.tup [.int t.one, .int t.other, .str (kindS t.foe)])
def TieOk (n : Int) (t : Tie) : Prop := 0 ≤ t.one ∧ t.one < n ∧ 0 ≤ t.other ∧ t.other < n ∧ t.one ≠ t.other
def WebAt (H : Hp) (v : V) (n : Int) (ts : List Tie) : Prop := ∃ a b vs, v = .ref a ∧ H a = some (.tup [.int n, .ref b]) ∧ H b = some (.tup vs) ∧ Paired (TieV H) vs ts
structure WebOk (n : Int) (ts : List Tie) : Prop where
  lo : 1 ≤ n
  hi : n ≤ 40
  few : ts.length ≤ 120
  ok : ∀ t ∈ ts, TieOk n t
/-- tuples stay -/
def Tk (H H' : Hp) : Prop := ∀ b xs, H b = some (.tup xs) → H' b = some (.tup xs)
theorem Tk.trans {H H1 H2 : Hp} (a : Tk H H1) (b : Tk H1 H2) : Tk H H2 := fun x xs h => b x xs (a x xs h)
theorem Same.tk {H H' : Hp} (s : Same H H') : Tk H H' := fun b xs h => s b _ h
theorem tk_lst {H : Hp} {l : Addr} {xs ys : List V} (h : H l = some (.lst xs)) : Tk H (upd H l (.lst ys)) := fun b zs e => by
  rw [upd_ne (ne_of e h (by intro z; cases z))]
  exact e
theorem TieV.tk {H H' : Hp} (k : Tk H H') {v : V} {t : Tie} (h : TieV H v t) : TieV H' v t := by
  obtain ⟨a, rfl, e⟩ := h
  exact ⟨a, rfl, k _ _ e⟩
theorem ties_tk {H H' : Hp} (k : Tk H H') {vs : List V} {ts : List Tie} (h : Paired (TieV H) vs ts) : Paired (TieV H') vs ts := Paired.mono (fun _ _ x => x.tk k) h
theorem WebAt.tk {H H' : Hp} (k : Tk H H') {v : V} {n : Int} {ts : List Tie} (h : WebAt H v n ts) : WebAt H' v n ts := by
  obtain ⟨a, b, vs, rfl, h1, h2, h3⟩ := h
  exact ⟨a, b, vs, rfl, k _ _ h1, k _ _ h2, ties_tk k h3⟩
theorem Kp.mut {d c l : Addr} {H H' : Hp} {o : HO} (k : Kp d c H H') (h : H l = none) : Kp d c H (upd H' l o) := fun b u h1 h2 e => by
  rw [upd_ne (ne_of_none e h)]
  exact k b u h1 h2 e
theorem Paired.at {α β : Type} {F : α → β → Prop} : ∀ {l : List α} {m : List β} {i : Nat} {a : α}, Paired F l m → l[i]? = some a → ∃ b, m[i]? = some b ∧ F a b
  | _, _, _, _, .nil, e => by simp at e
  | _, _, 0, _, .cons r _, e => by simp at e; subst e; exact ⟨_, rfl, r⟩
  | _, _, i + 1, a, .cons _ t, e => by
    obtain ⟨u, h1, h2⟩ := Paired.at (i := i) (a := a) t (by simpa using e)
    exact ⟨u, by simpa using h1, h2⟩
theorem Paired.at' {α β : Type} {F : α → β → Prop} : ∀ {l : List α} {m : List β} {i : Nat} {b : β}, Paired F l m → m[i]? = some b → ∃ a, l[i]? = some a ∧ F a b
  | _, _, _, _, .nil, e => by simp at e
  | _, _, 0, _, .cons r _, e => by simp at e; subst e; exact ⟨_, rfl, r⟩
  | _, _, i + 1, b, .cons _ t, e => by
    obtain ⟨u, h1, h2⟩ := Paired.at' (i := i) (b := b) t (by simpa using e)
    exact ⟨u, by simpa using h1, h2⟩
theorem getI {α : Type} {xs : List α} {i : Int} (h0 : 0 ≤ i) (h1 : i < (xs.length : Int)) : ∃ v, atI xs i = some v ∧ xs[i.toNat]? = some v := by
  obtain ⟨j, rfl⟩ : ∃ j : Nat, i = (j : Int) := ⟨i.toNat, by omega⟩
  have h2 : j < xs.length := by omega
  exact ⟨xs[j], atI_nat (List.getElem?_eq_getElem h2), by rw [Int.toNat_natCast]; exact List.getElem?_eq_getElem h2⟩
theorem other_ne {n a b : Int} (h0 : 0 ≤ a) (h1 : a < n) (g0 : 0 ≤ b) (g1 : b < n - 1) : a ≠ (a + 1 + b) % n := by
  by_cases h : a + 1 + b < n
  · rw [Int.emod_eq_of_lt (by omega) h]
    omega
  · have e : a + 1 + b = (a + 1 + b - n) + 1 * n := by omega
    rw [e, Int.add_mul_emod_self_right, Int.emod_eq_of_lt (by omega) (by omega)]
    omega
theorem pick2 {α : Type} (a b : α) (k : Bool) : atI [a, b] (if k then 1 else 0) = some (if k then b else a) := by
  cases k <;> rfl
theorem Kp.free {d c l : Addr} {H H' : Hp} (k : Kp d c H H') (h : H' l = none) (h1 : l ≠ d) (h2 : l ≠ c) : H l = none := by
  cases e : H l with
  | none => rfl
  | some o =>
    rw [k l o h1 h2 e] at h
    cases h
theorem atI_of {xs : List V} {i : Int} {v : V} (h0 : 0 ≤ i) (e : xs[i.toNat]? = some v) : atI xs i = some v := by
  obtain ⟨j, rfl⟩ : ∃ j : Nat, i = (j : Int) := ⟨i.toNat, by omega⟩
  exact atI_nat (by rw [Int.toNat_natCast] at e; exact e)
theorem atI_ints {xs : List Int} {i : Int} (h0 : 0 ≤ i) (h1 : i < xs.length) : ∃ x ∈ xs, xs[i.toNat]? = some x ∧ atI (xs.map V.int) i = some (.int x) := by
  have h : i.toNat < xs.length := by omega
  exact ⟨xs[i.toNat], List.getElem_mem h, List.getElem?_eq_getElem h, atI_of h0 (by rw [List.getElem?_map, List.getElem?_eq_getElem h]; rfl)⟩
end
/-! ### tuples cut and put together -/
section
variable {X : Cx}
theorem cutV_whole {xs : List V} {lo hi : Option Int} (h : HT.sIx xs.length 0 lo = 0 ∧ HT.sIx xs.length xs.length hi = xs.length) : cutV xs lo hi = xs := by
  unfold cutV
  rw [h.1, h.2]
  simp
def rSlU : V → Option Int → Option Int → Hp → VK → Prop := fun x lo hi H Q => ∃ a xs, x = .ref a ∧ H a = some (.tup xs) ∧ ∀ r H', Same H H' → H' r = some (.tup (cutV xs lo hi)) → Q (.ref r) H'
theorem sl_tupU : SlR X rSlU := by
  intro pins s σ H x v vl vu lo hi sl Q I rx hs pl pu h
  obtain ⟨a, xs, rfl, hx, q⟩ := h
  refine sl_tupA pins s σ H _ v vl vu lo hi sl Q I rx hs pl pu ⟨a, xs, rfl, SqT.of hx, fun hw => ?_, fun _ p np => ?_⟩
  · exact q a H (Same.refl H) (by rw [cutV_whole hw]; exact hx)
  · exact q p _ (same_new np) upd_same
def rCatU : R2 := fun x y H Q => ∃ a b xs ys, x = .ref a ∧ y = .ref b ∧ H a = some (.tup xs) ∧ H b = some (.tup ys) ∧ xs.length + ys.length ≤ 100000 ∧ ∀ r H', Same H H' → H' r = some (.tup (xs ++ ys)) → Q (.ref r) H'
theorem op_catU : OpR X (binaryOp .Add) rCatU := by
  intro pins s σ H x y v u Q I rx ry h
  obtain ⟨a, b, xs, ys, rfl, rfl, ha, hb, hz, q⟩ := h
  refine op_catA pins s σ H _ _ v u Q I rx ry ⟨a, b, xs, ys, rfl, rfl, SqT.of ha, SqT.of hb, Evl.sz_of hz, fun e => ?_, fun _ e => ?_, fun _ _ p np => ?_⟩
  · subst e
    exact q b H (Same.refl H) hb
  · subst e
    exact q a H (Same.refl H) (by rw [List.append_nil]; exact ha)
  · exact q p _ (same_new np) upd_same
end
/-! ### things of any kind -/
/-- its kind is known -/
def Kn (H : Hp) : V → Prop
  | .non => True
  | .bl _ => True
  | .int _ => True
  | .str _ => True
  | .ref a => (∃ xs, H a = some (.lst xs)) ∨ (∃ xs, H a = some (.tup xs)) ∨ ∃ kvs, H a = some (.dK kvs)
  | _ => False
def isI : V → Bool
  | .int _ => true
  | .bl _ => true
  | _ => false
def isB : V → Bool
  | .bl _ => true
  | _ => false
def isW : V → Bool
  | .int _ => true
  | _ => false
def isT (H : Hp) : V → Bool
  | .ref a => match H a with
    | some (.tup _) => true
    | _ => false
  | _ => false
section
variable {K : PySem.W.Frag} {H : Hp}
theorem kn_int {v : V} (h : Kn H v) : ∃ t, TyX K H v t ∧ PySem.W.kitOne K t (.type "int") = some (isI v) := by
  cases v with
  | non => exact ⟨_, .base .non, kit_ty (r := false) (by decide +kernel)⟩
  | bl b => exact ⟨_, .base (.bl b), kit_ty (r := true) (by decide +kernel)⟩
  | int i => exact ⟨_, .base (.int i), kit_ty (r := true) (by decide +kernel)⟩
  | str x => exact ⟨_, .base (.str x), kit_ty (r := false) (by decide +kernel)⟩
  | ref a =>
    rcases h with ⟨xs, h⟩ | ⟨xs, h⟩ | ⟨xs, h⟩
    · exact ⟨_, .base (.lst h), kit_ty (r := false) (by decide +kernel)⟩
    · exact ⟨_, .base (.tup h), kit_ty (r := false) (by decide +kernel)⟩
    · exact ⟨_, .base (.dK h), kit_ty (r := false) (by decide +kernel)⟩
  | byt b => exact h.elim
  | flt b => exact h.elim
  | ty n => exact h.elim
theorem kn_bool {v : V} (h : Kn H v) : ∃ t, TyX K H v t ∧ PySem.W.kitOne K t (.type "bool") = some (isB v) := by
  cases v with
  | non => exact ⟨_, .base .non, kit_ty (r := false) (by decide +kernel)⟩
  | bl b => exact ⟨_, .base (.bl b), kit_ty (r := true) (by decide +kernel)⟩
  | int i => exact ⟨_, .base (.int i), kit_ty (r := false) (by decide +kernel)⟩
  | str x => exact ⟨_, .base (.str x), kit_ty (r := false) (by decide +kernel)⟩
  | ref a =>
    rcases h with ⟨xs, h⟩ | ⟨xs, h⟩ | ⟨xs, h⟩
    · exact ⟨_, .base (.lst h), kit_ty (r := false) (by decide +kernel)⟩
    · exact ⟨_, .base (.tup h), kit_ty (r := false) (by decide +kernel)⟩
    · exact ⟨_, .base (.dK h), kit_ty (r := false) (by decide +kernel)⟩
  | byt b => exact h.elim
  | flt b => exact h.elim
  | ty n => exact h.elim
theorem kn_tup {v : V} (h : Kn H v) : ∃ t, TyX K H v t ∧ PySem.W.kitOne K t (.type "tuple") = some (isT H v) := by
  cases v with
  | non => exact ⟨_, .base .non, kit_ty (r := false) (by decide +kernel)⟩
  | bl b => exact ⟨_, .base (.bl b), kit_ty (r := false) (by decide +kernel)⟩
  | int i => exact ⟨_, .base (.int i), kit_ty (r := false) (by decide +kernel)⟩
  | str x => exact ⟨_, .base (.str x), kit_ty (r := false) (by decide +kernel)⟩
  | ref a =>
    unfold isT
    rcases h with ⟨xs, h⟩ | ⟨xs, h⟩ | ⟨xs, h⟩
    · exact ⟨_, .base (.lst h), by simp only [h]; exact kit_ty (r := false) (by decide +kernel)⟩
    · exact ⟨_, .base (.tup h), by simp only [h]; exact kit_ty (r := true) (by decide +kernel)⟩
    · exact ⟨_, .base (.dK h), by simp only [h]; exact kit_ty (r := false) (by decide +kernel)⟩
  | byt b => exact h.elim
  | flt b => exact h.elim
  | ty n => exact h.elim
theorem isT_at {v : V} (h : isT H v = true) : ∃ a xs, v = .ref a ∧ H a = some (.tup xs) := by
  cases v with
  | ref a =>
    unfold isT at h
    cases e : H a with
    | none => simp only [e] at h; cases h
    | some o =>
      cases o with
      | tup xs => exact ⟨a, xs, rfl, e⟩
      | _ => simp only [e] at h; cases h
  | _ => cases h
theorem isT_of {a : Addr} {xs : List V} (h : H a = some (.tup xs)) : isT H (.ref a) = true := by
  unfold isT
  simp only [h]
end
section
variable {P : Program} {w : World} {K : PySem.W.Frag} {mg : Str → Option Value} {base : Heap}
def spWhole : Sp := fun vs H Q _ => ∃ v, vs = [v] ∧ Kn H v ∧ Q (.bl (isW v)) H
theorem and_whole {v : V} : (isI v && !isB v) = isW v := by cases v <;> rfl
end
/-! ### ties, walks, parts: the mathematics -/
def Adj (ts : List Tie) (a b : Int) (foe : Bool) : Prop := ∃ t ∈ ts, t.foe = foe ∧ ((t.one = a ∧ t.other = b) ∨ (t.one = b ∧ t.other = a))
theorem Adj.symm {ts : List Tie} {a b : Int} {k : Bool} (h : Adj ts a b k) : Adj ts b a k := by
  obtain ⟨t, ht, e, h⟩ := h
  exact ⟨t, ht, e, h.symm⟩
/-- a walk with so many foes, even or odd -/
inductive RP (ts : List Tie) (a : Int) : Int → Bool → Prop
  | nil : RP ts a a false
  | step {b c : Int} {p k : Bool} : RP ts a b p → Adj ts b c k → RP ts a c (p ^^ k)
def Rch (ts : List Tie) (a b : Int) : Prop := ∃ p, RP ts a b p
theorem RP.trans {ts : List Tie} {a b c : Int} {p q : Bool} (h : RP ts a b p) (g : RP ts b c q) : RP ts a c (p ^^ q) := by
  induction g with
  | nil =>
    rw [Bool.xor_false]
    exact h
  | step _ k ih =>
    rw [← Bool.xor_assoc]
    exact ih.step k
theorem RP.one {ts : List Tie} {a b : Int} {k : Bool} (h : Adj ts a b k) : RP ts a b k := by
  have q := RP.nil.step h
  rw [Bool.false_xor] at q
  exact q
theorem RP.symm {ts : List Tie} {a b : Int} {p : Bool} (h : RP ts a b p) : RP ts b a p := by
  induction h with
  | nil => exact .nil
  | step _ k ih =>
    have q := (RP.one k.symm).trans ih
    rw [Bool.xor_comm] at q
    exact q
theorem Rch.refl {ts : List Tie} {a : Int} : Rch ts a a := ⟨_, .nil⟩
theorem Rch.symm {ts : List Tie} {a b : Int} (h : Rch ts a b) : Rch ts b a := by
  obtain ⟨p, h⟩ := h
  exact ⟨p, h.symm⟩
theorem Rch.trans {ts : List Tie} {a b c : Int} (h : Rch ts a b) (g : Rch ts b c) : Rch ts a c := by
  obtain ⟨p, h⟩ := h
  obtain ⟨q, g⟩ := g
  exact ⟨_, h.trans g⟩
theorem Rch.adj {ts : List Tie} {a b : Int} {k : Bool} (h : Adj ts a b k) : Rch ts a b := ⟨_, RP.one h⟩
theorem Rch.ind {ts : List Tie} {a b : Int} (C : Int → Prop) (h : Rch ts a b) (h0 : C a) (hs : ∀ x y k, C x → Adj ts x y k → C y) : C b := by
  obtain ⟨p, h⟩ := h
  induction h with
  | nil => exact h0
  | step _ k ih => exact hs _ _ _ ih k
theorem Adj.rng {ts : List Tie} {n a b : Int} {k : Bool} (ok : ∀ t ∈ ts, TieOk n t) (h : Adj ts a b k) : 0 ≤ b ∧ b < n := by
  obtain ⟨t, ht, _, h⟩ := h
  obtain ⟨h1, h2, h3, h4, _⟩ := ok t ht
  rcases h with ⟨e1, e2⟩ | ⟨e1, e2⟩
  · omega
  · omega
theorem Rch.rng {ts : List Tie} {n a b : Int} (ok : ∀ t ∈ ts, TieOk n t) (ha : 0 ≤ a ∧ a < n) (h : Rch ts a b) : 0 ≤ b ∧ b < n := h.ind (fun x => 0 ≤ x ∧ x < n) ha fun _ _ _ _ k => k.rng ok
def leader (ts : List Tie) (s : Int) : Prop := ∀ q, Rch ts s q → s ≤ q
/-- rising lists of the same numbers are one -/
theorem rising_ext : ∀ {xs ys : List Int}, xs.Pairwise (· < ·) → ys.Pairwise (· < ·) → (∀ z, z ∈ xs ↔ z ∈ ys) → xs = ys
  | [], [], _, _, _ => rfl
  | [], y :: ys, _, _, h => by have := (h y).mpr (by simp); simp at this
  | x :: xs, [], _, _, h => by have := (h x).mp (by simp); simp at this
  | x :: xs, y :: ys, hx, hy, h => by
    rw [List.pairwise_cons] at hx hy
    have e : x = y := by
      have h1 := (h x).mp (by simp)
      have h2 := (h y).mpr (by simp)
      rcases List.mem_cons.mp h1 with e | e
      · exact e
      · rcases List.mem_cons.mp h2 with e' | e'
        · exact e'.symm
        · have := hx.1 y e'
          have := hy.1 x e
          omega
    subst e
    rw [rising_ext hx.2 hy.2 fun z => ?_]
    constructor
    · intro hz
      rcases List.mem_cons.mp ((h z).mp (List.mem_cons_of_mem _ hz)) with e | e
      · have := hx.1 z hz
        omega
      · exact e
    · intro hz
      rcases List.mem_cons.mp ((h z).mpr (List.mem_cons_of_mem _ hz)) with e | e
      · have := hy.1 z hz
        omega
      · exact e
/-- 0, 1, .., n - 1 -/
def rng (n : Nat) : List Int := (List.range n).map fun (i : Nat) => (i : Int)
theorem mem_rng {n : Nat} {z : Int} : z ∈ rng n ↔ 0 ≤ z ∧ z < n := by
  unfold rng
  rw [List.mem_map]
  constructor
  · rintro ⟨i, hi, rfl⟩
    have := List.mem_range.mp hi
    omega
  · rintro ⟨h1, h2⟩
    exact ⟨z.toNat, List.mem_range.mpr (by omega), by omega⟩
theorem rng_rising (n : Nat) : (rng n).Pairwise (· < ·) := by
  unfold rng
  rw [List.pairwise_map]
  exact List.pairwise_lt_range.imp (by intro a b h; omega)
theorem rng_succ (n : Nat) : rng (n + 1) = rng n ++ [(n : Int)] := by
  unfold rng
  rw [List.range_succ, List.map_append]
  rfl
theorem rng_length (n : Nat) : (rng n).length = n := by
  unfold rng
  rw [List.length_map, List.length_range]
open Classical in
/-- the part of s -/
noncomputable def partOf (ts : List Tie) (n : Nat) (s : Int) : List Int := (rng n).filter fun p => decide (Rch ts s p)
open Classical in
/-- the parts by their first places, below i -/
noncomputable def partsTo (ts : List Tie) (n i : Nat) : List (List Int) := ((rng i).filter fun s => decide (leader ts s)).map (partOf ts n)
open Classical in
theorem partsTo_succ (ts : List Tie) (n i : Nat) : partsTo ts n (i + 1) = partsTo ts n i ++ (if leader ts i then [partOf ts n i] else []) := by
  unfold partsTo
  rw [rng_succ, List.filter_append, List.map_append]
  congr 1
  by_cases h : leader ts (i : Int)
  · rw [if_pos h, List.filter_cons, if_pos (decide_eq_true h)]
    rfl
  · rw [if_neg h, List.filter_cons, if_neg (by simpa using h)]
    rfl
theorem part_rising (ts : List Tie) (n : Nat) (s : Int) : (partOf ts n s).Pairwise (· < ·) := (rng_rising n).filter _
theorem mem_part {ts : List Tie} {n : Nat} {s z : Int} : z ∈ partOf ts n s ↔ (0 ≤ z ∧ z < n) ∧ Rch ts s z := by
  unfold partOf
  rw [List.mem_filter, mem_rng]
  simp
/-! ### the least place that each comes to, gone over again and again -/
def relax (f : Int → Int) (t : Tie) : Int → Int := fun x => if x = t.one ∨ x = t.other then min (f t.one) (f t.other) else f x
def rounds (ts : List Tie) : Nat → Int → Int
  | 0 => fun x => x
  | r + 1 => ts.foldl relax (rounds ts r)
theorem relax_le (f : Int → Int) (t : Tie) (x : Int) : relax f t x ≤ f x := by
  unfold relax
  split
  · rename_i h
    rcases h with rfl | rfl <;> omega
  · exact Int.le_refl _
theorem fold_le : ∀ (l : List Tie) (f : Int → Int) (x : Int), l.foldl relax f x ≤ f x
  | [], _, _ => Int.le_refl _
  | t :: l, f, x => Int.le_trans (fold_le l (relax f t) x) (relax_le f t x)
theorem fold_tie : ∀ (l : List Tie) (f : Int → Int) (t : Tie), t ∈ l → l.foldl relax f t.one ≤ min (f t.one) (f t.other) ∧ l.foldl relax f t.other ≤ min (f t.one) (f t.other)
  | t' :: l, f, t, h => by
    rcases List.mem_cons.mp h with e | e
    · subst e
      have h1 := fold_le l (relax f t) t.one
      have h2 := fold_le l (relax f t) t.other
      have e1 : relax f t t.one = min (f t.one) (f t.other) := by unfold relax; rw [if_pos (.inl rfl)]
      have e2 : relax f t t.other = min (f t.one) (f t.other) := by unfold relax; rw [if_pos (.inr rfl)]
      rw [e1] at h1
      rw [e2] at h2
      exact ⟨h1, h2⟩
    · have ih := fold_tie l (relax f t') t e
      have h1 := relax_le f t' t.one
      have h2 := relax_le f t' t.other
      exact ⟨Int.le_trans ih.1 (by omega), Int.le_trans ih.2 (by omega)⟩
theorem fold_rch {ts : List Tie} : ∀ (l : List Tie) (f : Int → Int), (∀ t ∈ l, t ∈ ts) → (∀ x, Rch ts x (f x)) → ∀ x, Rch ts x (l.foldl relax f x)
  | [], _, _, h => h
  | t :: l, f, hl, h => fold_rch l (relax f t) (fun t' ht => hl t' (List.mem_cons_of_mem _ ht)) fun x => by
    have ad : Rch ts t.one t.other := Rch.adj (k := t.foe) ⟨t, hl t (by simp), rfl, .inl ⟨rfl, rfl⟩⟩
    unfold relax
    split
    · rename_i hx
      have key : Rch ts x t.one ∧ Rch ts x t.other := by
        rcases hx with e | e <;> subst e
        · exact ⟨Rch.refl, ad⟩
        · exact ⟨ad.symm, Rch.refl⟩
      rcases Int.le_total (f t.one) (f t.other) with q | q
      · rw [Int.min_eq_left q]
        exact key.1.trans (h _)
      · rw [Int.min_eq_right q]
        exact key.2.trans (h _)
    · exact h x
theorem rounds_rch (ts : List Tie) : ∀ (r : Nat) (x : Int), Rch ts x (rounds ts r x)
  | 0, _ => Rch.refl
  | r + 1, x => fold_rch ts _ (fun _ h => h) (rounds_rch ts r) x
theorem filter_lt {p q : Int → Bool} : ∀ {l : List Int}, (∀ x ∈ l, q x = true → p x = true) → (∃ x ∈ l, p x = true ∧ q x = false) → (l.filter q).length < (l.filter p).length
  | [], _, ⟨x, hx, _⟩ => by simp at hx
  | y :: l, hi, ⟨x, hx, hp, hq⟩ => by
    have mono : (l.filter q).length ≤ (l.filter p).length := by
      have hi' : ∀ x ∈ l, q x = true → p x = true := fun x h => hi x (List.mem_cons_of_mem _ h)
      clear hi hx hp hq
      induction l with
      | nil => exact Nat.le_refl _
      | cons z l ih =>
        have ih := ih fun x h => hi' x (List.mem_cons_of_mem _ h)
        rw [List.filter_cons, List.filter_cons]
        have hz := hi' z (by simp)
        cases h1 : q z <;> cases h2 : p z <;> simp_all <;> omega
    rw [List.filter_cons, List.filter_cons]
    rcases List.mem_cons.mp hx with e | e
    · subst e
      rw [hq, hp]
      simp
      omega
    · have ih := filter_lt (l := l) (fun x h => hi x (List.mem_cons_of_mem _ h)) ⟨x, e, hp, hq⟩
      have hy := hi y (by simp)
      cases h1 : q y <;> cases h2 : p y <;> simp_all <;> omega
open Classical in
/-- behind as many rounds as there are places each has its part's least place -/
theorem rounds_least {ts : List Tie} {n : Nat} (ok : ∀ t ∈ ts, TieOk n t) {m p : Int} (hm : leader ts m) (h0 : 0 ≤ m ∧ m < n) (hp : Rch ts m p) : rounds ts n p = m := by
  have ge : ∀ r x, Rch ts m x → m ≤ rounds ts r x := fun r x hx => hm _ (hx.trans (rounds_rch ts r x))
  have mono : ∀ r x, rounds ts (r + 1) x ≤ rounds ts r x := fun r x => fold_le ts _ x
  have atm : ∀ r, rounds ts r m = m := fun r => by
    have h1 := ge r m Rch.refl
    have h2 : rounds ts r m ≤ m := by
      induction r with
      | zero => exact Int.le_refl _
      | succ r ih => exact Int.le_trans (mono r m) (ih (ge r m Rch.refl))
    omega
  have cnt : ∀ r, ((rng n).filter fun x => decide (Rch ts m x ∧ rounds ts r x ≠ m)).length ≤ n - r := fun r => by
    induction r with
    | zero =>
      refine Nat.le_trans (List.length_filter_le _ _) ?_
      rw [rng_length]
      omega
    | succ r ih =>
      by_cases hex : ∃ x, Rch ts m x ∧ rounds ts r x ≠ m
      · obtain ⟨x, hx, hne⟩ := hex
        -- an edge over which it comes
        have edge : ∃ a b k, Rch ts m a ∧ rounds ts r a = m ∧ Adj ts a b k ∧ rounds ts r b ≠ m := by
          by_cases hn : ∃ a b k, Rch ts m a ∧ rounds ts r a = m ∧ Adj ts a b k ∧ rounds ts r b ≠ m
          · exact hn
          · exfalso
            refine hne (hx.ind (fun y => Rch ts m y ∧ rounds ts r y = m) ⟨Rch.refl, atm r⟩ fun a b k ha k' => ⟨ha.1.trans (Rch.adj k'), ?_⟩).2
            by_cases hb : rounds ts r b = m
            · exact hb
            · exact absurd ⟨a, b, k, ha.1, ha.2, k', hb⟩ hn
        obtain ⟨a, b, k, ha, ha2, hab, hb⟩ := edge
        have hmb : Rch ts m b := ha.trans (Rch.adj hab)
        have hb' : rounds ts (r + 1) b = m := by
          have h1 := ge (r + 1) b hmb
          obtain ⟨t, ht, _, h⟩ := hab
          have ft := fold_tie ts (rounds ts r) t ht
          have h2 : rounds ts (r + 1) b ≤ m := by
            rcases h with ⟨e1, e2⟩ | ⟨e1, e2⟩
            · have q := ft.2
              rw [e1, e2, ha2] at q
              exact Int.le_trans q (by omega)
            · have q := ft.1
              rw [e1, e2, ha2] at q
              exact Int.le_trans q (by omega)
          omega
        have lt := filter_lt (p := fun x => decide (Rch ts m x ∧ rounds ts r x ≠ m)) (q := fun x => decide (Rch ts m x ∧ rounds ts (r + 1) x ≠ m)) (l := rng n) (fun x _ hq => by
          have hq := of_decide_eq_true hq
          refine decide_eq_true ⟨hq.1, fun z => hq.2 ?_⟩
          have h1 := ge (r + 1) x hq.1
          have h2 := mono r x
          omega) ⟨b, mem_rng.mpr (hmb.rng ok h0), decide_eq_true ⟨hmb, hb⟩, decide_eq_false fun z => z.2 hb'⟩
        omega
      · have e : (rng n).filter (fun x => decide (Rch ts m x ∧ rounds ts (r + 1) x ≠ m)) = [] := by
          rw [List.filter_eq_nil_iff]
          intro x _ hq
          have hq := of_decide_eq_true hq
          refine hex ⟨x, hq.1, fun z => hq.2 ?_⟩
          have h1 := ge (r + 1) x hq.1
          have h2 := mono r x
          omega
        rw [e]
        exact Nat.zero_le _
  have c := cnt n
  rw [Nat.sub_self] at c
  have e := List.eq_nil_of_length_eq_zero (Nat.le_zero.mp c)
  by_cases hne : rounds ts n p = m
  · exact hne
  · rw [List.filter_eq_nil_iff] at e
    exact absurd (decide_eq_true ⟨hp, hne⟩) (e p (mem_rng.mpr (hp.rng ok h0)))
open Classical in
/-- each has a least place -/
theorem has_leader {ts : List Tie} {n : Nat} (ok : ∀ t ∈ ts, TieOk n t) {p : Int} (h0 : 0 ≤ p ∧ p < n) : ∃ m, leader ts m ∧ (0 ≤ m ∧ m < n) ∧ Rch ts m p := by
  have key : ∀ (k : Nat) (x : Int), x = k → Rch ts p x → ∃ m, leader ts m ∧ (0 ≤ m ∧ m < n) ∧ Rch ts m p := by
    intro k
    induction k using Nat.strongRecOn with
    | ind k ih =>
      intro x hx hr
      have hxr := hr.rng ok h0
      by_cases hl : leader ts x
      · exact ⟨x, hl, hxr, hr.symm⟩
      · have hl' : ∃ q, Rch ts x q ∧ q < x := by
          by_cases h : ∃ q, Rch ts x q ∧ q < x
          · exact h
          · exfalso
            refine hl fun q hq => ?_
            by_cases h' : q < x
            · exact absurd ⟨q, hq, h'⟩ h
            · omega
        obtain ⟨q, hq, hlt⟩ := hl'
        have hqr := hq.rng ok hxr
        exact ih q.toNat (by omega) q (by omega) (hr.trans hq)
  exact key p.toNat p (by omega) Rch.refl
/-! ### rows of numbers as data -/
def IntsV (H : Hp) (v : V) (xs : List Int) : Prop := ∃ b, v = .ref b ∧ H b = some (.tup (xs.map V.int))
theorem IntsV.tk {H H' : Hp} (k : Tk H H') {v : V} {xs : List Int} (h : IntsV H v xs) : IntsV H' v xs := by
  obtain ⟨a, rfl, e⟩ := h
  exact ⟨a, rfl, k _ _ e⟩
def intsD (xs : List Int) : PyData := .tuple (xs.map PyData.int)
section
variable {K : PySem.W.Frag} {H : Hp}
theorem dp_ints : ∀ (xs : List Int), DpAll K H (xs.map V.int) (xs.map PyData.int)
  | [] => .nil
  | x :: xs => .cons (.int x) (dp_ints xs)
theorem IntsV.dp {v : V} {xs : List Int} (h : IntsV H v xs) : Dp K H v (intsD xs) := by
  obtain ⟨b, rfl, e⟩ := h
  exact .tup (SqT.of e) (dp_ints xs)
end
theorem lay_ints : ∀ xs : List Int, PyData.canLayAll0 (xs.map PyData.int) = true
  | [] => by simp [PyData.canLayAll0]
  | x :: xs => by simp [PyData.canLayAll0, PyData.canLay0, lay_ints xs]
theorem deep_ints : ∀ xs : List Int, PyData.depthAll (xs.map PyData.int) = 0
  | [] => by simp [PyData.depthAll]
  | x :: xs => by simp [PyData.depthAll, PyData.depth, deep_ints xs]
theorem lay_intsD (xs : List Int) : (intsD xs).canLay0 = true := by
  unfold intsD
  rw [PyData.canLay0]
  exact lay_ints xs
theorem deep_intsD (xs : List Int) : (intsD xs).depth = 1 := by
  unfold intsD
  rw [PyData.depth, deep_ints]
theorem shaped_intsD (xs : List Int) : SeqAt.shaped (intsD xs) = true := by
  unfold SeqAt.shaped
  rw [lay_intsD, deep_intsD]
  rfl
theorem eqv_nil (xs : List Int) : PyData.eqv (intsD xs) (intsD []) = xs.isEmpty := by
  unfold intsD
  rw [PyData.eqv]
  cases xs <;> rfl

theorem Same.mut {H H' : Hp} {a : Addr} {o : HO} (s : Same H H') (h : H a = none) : Same H (upd H' a o) := fun b x e => by
  rw [upd_ne (ne_of_none e h)]
  exact s b x e
theorem at0 {α : Type} (x : α) (xs : List α) : atI (x :: xs) 0 = some x := atI_nat (j := 0) rfl
/-! ### stems (mathematics) -/
theorem Rch.mono {ts ts' : List Tie} (h : ∀ t ∈ ts, t ∈ ts') {a b : Int} (r : Rch ts a b) : Rch ts' a b :=
  r.ind (fun x => Rch ts' a x) .refl fun x y k hx ad => by
    obtain ⟨t, ht, e⟩ := ad
    exact hx.trans (Rch.adj (k := k) ⟨t, h t ht, e⟩)
theorem rch_pq {ts : List Tie} {t : Tie} {p q : Int} (h : (p = t.one ∧ q = t.other) ∨ (p = t.other ∧ q = t.one)) : Rch (ts ++ [t]) p q := by
  refine Rch.adj (k := t.foe) ⟨t, List.mem_append_right _ (by simp), rfl, ?_⟩
  rcases h with ⟨h1, h2⟩ | ⟨h1, h2⟩
  · exact .inl ⟨h1.symm, h2.symm⟩
  · exact .inr ⟨h2.symm, h1.symm⟩
theorem rch_snoc {ts : List Tie} {t : Tie} {p q : Int} (h : (p = t.one ∧ q = t.other) ∨ (p = t.other ∧ q = t.one)) {a b : Int} : Rch (ts ++ [t]) a b ↔ Rch ts a b ∨ (Rch ts a p ∧ Rch ts q b) ∨ (Rch ts a q ∧ Rch ts p b) := by
  have up : ∀ {x y : Int}, Rch ts x y → Rch (ts ++ [t]) x y := fun r => r.mono fun t ht => List.mem_append_left _ ht
  constructor
  · intro r
    refine r.ind (fun x => Rch ts a x ∨ (Rch ts a p ∧ Rch ts q x) ∨ (Rch ts a q ∧ Rch ts p x)) (.inl .refl) fun x y k hx ad => ?_
    obtain ⟨t', ht, e1, e2⟩ := ad
    rcases List.mem_append.mp ht with ht | ht
    · have st : Rch ts x y := Rch.adj (k := k) ⟨t', ht, e1, e2⟩
      rcases hx with h1 | ⟨h1, h2⟩ | ⟨h1, h2⟩
      · exact .inl (h1.trans st)
      · exact .inr (.inl ⟨h1, h2.trans st⟩)
      · exact .inr (.inr ⟨h1, h2.trans st⟩)
    · rw [List.mem_singleton] at ht
      subst ht
      have xy : (x = p ∧ y = q) ∨ (x = q ∧ y = p) := by
        rcases e2 with ⟨e2, e3⟩ | ⟨e2, e3⟩ <;> rcases h with ⟨h1, h2⟩ | ⟨h1, h2⟩
        · exact .inl ⟨by omega, by omega⟩
        · exact .inr ⟨by omega, by omega⟩
        · exact .inr ⟨by omega, by omega⟩
        · exact .inl ⟨by omega, by omega⟩
      rcases xy with ⟨rfl, rfl⟩ | ⟨rfl, rfl⟩
      · rcases hx with h1 | ⟨h1, h2⟩ | ⟨h1, h2⟩
        · exact .inr (.inl ⟨h1, .refl⟩)
        · exact .inr (.inl ⟨h1, .refl⟩)
        · exact .inl h1
      · rcases hx with h1 | ⟨h1, h2⟩ | ⟨h1, h2⟩
        · exact .inr (.inr ⟨h1, .refl⟩)
        · exact .inl h1
        · exact .inr (.inr ⟨h1, .refl⟩)
  · rintro (h1 | ⟨h1, h2⟩ | ⟨h1, h2⟩)
    · exact up h1
    · exact (up h1).trans ((rch_pq h).trans (up h2))
    · exact (up h1).trans ((rch_pq h).symm.trans (up h2))
theorem rch_nil {a b : Int} (h : Rch [] a b) : a = b := h.ind (fun x => a = x) rfl fun x y k _ ad => by
  obtain ⟨t, ht, _⟩ := ad
  simp at ht
def tieN (ts : List Tie) (k : Nat) : Tie := ts.getD k ⟨0, 0, false⟩
theorem tieN_of {ts : List Tie} {k : Nat} {t : Tie} (h : ts[k]? = some t) : tieN ts k = t := by
  unfold tieN
  rw [List.getD_eq_getElem?_getD, h]
  rfl
open Classical in
noncomputable def stemB (ts : List Tie) (k : Nat) : Bool := decide (¬ Rch (ts.take k) (tieN ts k).one (tieN ts k).other)
noncomputable def stemsTo (ts : List Tie) (k : Nat) : List Int := (rng k).filter fun i => stemB ts i.toNat
theorem stemsTo_succ (ts : List Tie) (k : Nat) : stemsTo ts (k + 1) = stemsTo ts k ++ (if stemB ts k = true then [(k : Int)] else []) := by
  unfold stemsTo
  rw [rng_succ, List.filter_append, List.filter_cons, Int.toNat_natCast]
  rfl
theorem stemsTo_len (ts : List Tie) (k : Nat) : (stemsTo ts k).length ≤ k := by
  unfold stemsTo
  have := List.length_filter_le (fun i => stemB ts i.toNat) (rng k)
  rw [rng_length] at this
  exact this
open Classical in
theorem stem_iff {ts : List Tie} {k : Nat} {t : Tie} (h : ts[k]? = some t) : stemB ts k = true ↔ ¬ Rch (ts.take k) t.one t.other := by
  unfold stemB
  rw [tieN_of h]
  exact decide_eq_true_iff
theorem take_snoc {α : Type} {ts : List α} {k : Nat} {t : α} (h : ts[k]? = some t) : ts.take (k + 1) = ts.take k ++ [t] := by
  rw [List.take_add_one, h]
  rfl
/-- labels: alike just where ties lead -/
def Lab (ts : List Tie) (n : Nat) (g : Int → Int) : Prop := ∀ i j : Int, 0 ≤ i → i < n → 0 ≤ j → j < n → (g i = g j ↔ Rch ts i j)
def mrg (g : Int → Int) (old new : Int) : Int → Int := fun x => if g x = old then new else g x
theorem lab_nil (n : Nat) : Lab [] n (fun i => i) := fun i j _ _ _ _ => ⟨fun h => by rw [show i = j from h]; exact .refl, fun h => rch_nil h⟩
theorem lab_same {ts : List Tie} {n : Nat} {g : Int → Int} {t : Tie} (h : Lab ts n g) (ok : TieOk n t) (e : g t.one = g t.other) : Lab (ts ++ [t]) n g := fun i j i0 i1 j0 j1 => by
  obtain ⟨o1, o2, o3, o4, _⟩ := ok
  have r : Rch ts t.one t.other := (h _ _ o1 o2 o3 o4).mp e
  rw [rch_snoc (.inl ⟨rfl, rfl⟩), h i j i0 i1 j0 j1]
  constructor
  · exact .inl
  · rintro (h1 | ⟨h1, h2⟩ | ⟨h1, h2⟩)
    · exact h1
    · exact h1.trans (r.trans h2)
    · exact h1.trans (r.symm.trans h2)
theorem lab_step {ts : List Tie} {n : Nat} {g : Int → Int} {t : Tie} {p q : Int} (h : Lab ts n g) (ok : TieOk n t) (e : (p = t.one ∧ q = t.other) ∨ (p = t.other ∧ q = t.one)) : Lab (ts ++ [t]) n (mrg g (g p) (g q)) := fun i j i0 i1 j0 j1 => by
  have pr : (0 ≤ p ∧ p < n) ∧ (0 ≤ q ∧ q < n) := by
    obtain ⟨o1, o2, o3, o4, _⟩ := ok
    rcases e with ⟨rfl, rfl⟩ | ⟨rfl, rfl⟩
    · exact ⟨⟨o1, o2⟩, o3, o4⟩
    · exact ⟨⟨o3, o4⟩, o1, o2⟩
  obtain ⟨⟨p0, p1⟩, q0, q1⟩ := pr
  rw [rch_snoc e]
  unfold mrg
  have ip := h i p i0 i1 p0 p1
  have jp := h j p j0 j1 p0 p1
  have iq := h i q i0 i1 q0 q1
  have jq := h j q j0 j1 q0 q1
  have ij := h i j i0 i1 j0 j1
  by_cases hi : g i = g p <;> by_cases hj : g j = g p
  · rw [if_pos hi, if_pos hj]
    exact ⟨fun _ => .inl (ij.mp (hi.trans hj.symm)), fun _ => rfl⟩
  · rw [if_pos hi, if_neg hj]
    constructor
    · intro z
      exact .inr (.inl ⟨ip.mp hi, (jq.mp z.symm).symm⟩)
    · rintro (z | ⟨_, z⟩ | ⟨_, z⟩)
      · exact absurd ((ij.mpr z).symm.trans hi) hj
      · exact (jq.mpr z.symm).symm
      · exact absurd (jp.mpr z.symm) hj
  · rw [if_neg hi, if_pos hj]
    constructor
    · intro z
      exact .inr (.inr ⟨iq.mp z, (jp.mp hj).symm⟩)
    · rintro (z | ⟨z, _⟩ | ⟨z, _⟩)
      · exact absurd ((ij.mpr z).trans hj) hi
      · exact absurd (ip.mpr z) hi
      · exact iq.mpr z
  · rw [if_neg hi, if_neg hj]
    constructor
    · intro z
      exact .inl (ij.mp z)
    · rintro (z | ⟨z, _⟩ | ⟨_, z⟩)
      · exact ij.mpr z
      · exact absurd (ip.mpr z) hi
      · exact absurd (jp.mpr z.symm) hj
/-- heads: labels that are places of their own; how many -/
structure Heads (ts : List Tie) (n i : Nat) (g : Int → Int) : Prop where
  lab : Lab (ts.take i) n g
  rng : ∀ x : Int, 0 ≤ x → x < n → 0 ≤ g x ∧ g x < n
  idem : ∀ x : Int, 0 ≤ x → x < n → g (g x) = g x
  cnt : ((FF.rng n).filter fun x => decide (g x = x)).length + (stemsTo ts i).length = n
theorem heads_nil (ts : List Tie) (n : Nat) : Heads ts n 0 (fun i => i) := by
  refine ⟨by rw [List.take_zero]; exact lab_nil n, fun x h0 h1 => ⟨h0, h1⟩, fun x _ _ => rfl, ?_⟩
  have e : ((FF.rng n).filter fun x => decide (x = x)) = FF.rng n := by
    rw [List.filter_eq_self]
    intro x _
    exact decide_eq_true rfl
  show ((FF.rng n).filter fun x => decide (x = x)).length + 0 = n
  rw [e, rng_length, Nat.add_zero]
theorem filter_drop {p q : Int → Bool} {h : Int} : ∀ {l : List Int}, l.Nodup → h ∈ l → p h = true → (∀ x ∈ l, q x = (p x && decide (x ≠ h))) → (l.filter q).length + 1 = (l.filter p).length
  | x :: l, nd, hm, hp, hq => by
    rw [List.nodup_cons] at nd
    have hx := hq x (by simp)
    rw [List.filter_cons, List.filter_cons, hx]
    by_cases e : x = h
    · subst e
      have same : l.filter q = l.filter p := List.filter_congr fun y hy => by
        rw [hq y (List.mem_cons_of_mem _ hy), decide_eq_true (show y ≠ x from fun z => nd.1 (by rw [← z]; exact hy)), Bool.and_true]
      rw [same, hp]
      simp
    · have hm' : h ∈ l := (List.mem_cons.mp hm).elim (fun z => absurd z.symm e) id
      have ih := filter_drop (l := l) nd.2 hm' hp fun y hy => hq y (List.mem_cons_of_mem _ hy)
      rw [decide_eq_true (show x ≠ h from e), Bool.and_true]
      cases p x
      · simpa using ih
      · simp
        omega
theorem heads_same {ts : List Tie} {n i : Nat} {g : Int → Int} {t : Tie} (h : Heads ts n i g) (et : ts[i]? = some t) (ok : TieOk n t) (e : g t.one = g t.other) : Heads ts n (i + 1) g := by
  refine ⟨by rw [take_snoc et]; exact lab_same h.lab ok e, h.rng, h.idem, ?_⟩
  have no : ¬ stemB ts i = true := fun z => (stem_iff et).mp z ((h.lab _ _ ok.1 ok.2.1 ok.2.2.1 ok.2.2.2.1).mp e)
  rw [stemsTo_succ, if_neg no, List.append_nil]
  exact h.cnt
theorem heads_step {ts : List Tie} {n i : Nat} {g : Int → Int} {t : Tie} {p q : Int} (h : Heads ts n i g) (et : ts[i]? = some t) (ok : TieOk n t) (e : (p = t.one ∧ q = t.other) ∨ (p = t.other ∧ q = t.one)) (ne : g p ≠ g q) : Heads ts n (i + 1) (mrg g (g p) (g q)) := by
  have pr : (0 ≤ p ∧ p < n) ∧ (0 ≤ q ∧ q < n) := by
    obtain ⟨o1, o2, o3, o4, _⟩ := ok
    rcases e with ⟨rfl, rfl⟩ | ⟨rfl, rfl⟩
    · exact ⟨⟨o1, o2⟩, o3, o4⟩
    · exact ⟨⟨o3, o4⟩, o1, o2⟩
  obtain ⟨⟨p0, p1⟩, q0, q1⟩ := pr
  have gp := h.rng p p0 p1
  have gq := h.rng q q0 q1
  have ip := h.idem p p0 p1
  have iq := h.idem q q0 q1
  refine ⟨by rw [take_snoc et]; exact lab_step h.lab ok e, fun x x0 x1 => ?_, fun x x0 x1 => ?_, ?_⟩
  · unfold mrg
    split
    · exact gq
    · exact h.rng x x0 x1
  · have ix := h.idem x x0 x1
    by_cases hx : g x = g p
    · have e1 : mrg g (g p) (g q) x = g q := if_pos hx
      rw [e1]
      show (if g (g q) = g p then g q else g (g q)) = g q
      rw [iq, if_neg (Ne.symm ne)]
    · have e1 : mrg g (g p) (g q) x = g x := if_neg hx
      rw [e1]
      show (if g (g x) = g p then g q else g (g x)) = g x
      rw [ix, if_neg hx]
  · have yes : stemB ts i = true := (stem_iff et).mpr fun z => by
      have hl := (h.lab _ _ ok.1 ok.2.1 ok.2.2.1 ok.2.2.2.1).mpr z
      rcases e with ⟨rfl, rfl⟩ | ⟨rfl, rfl⟩
      · exact ne hl
      · exact ne hl.symm
    have drop := filter_drop (p := fun x => decide (g x = x)) (q := fun x => decide (mrg g (g p) (g q) x = x)) (h := g p) (l := FF.rng n) ((rng_rising n).imp fun h => by omega) (mem_rng.mpr gp) (decide_eq_true ip) (fun x hx => ?_)
    · rw [stemsTo_succ, if_pos yes, List.length_append]
      have := h.cnt
      simp only [List.length_cons, List.length_nil]
      omega
    · have xr := mem_rng.mp hx
      rw [Bool.eq_iff_iff, Bool.and_eq_true, decide_eq_true_iff, decide_eq_true_iff, decide_eq_true_iff]
      show (if g x = g p then g q else g x) = x ↔ _
      by_cases hx : g x = g p
      · rw [if_pos hx]
        constructor
        · intro z
          exact absurd (by rw [← z, iq] at hx; exact hx.symm) ne
        · rintro ⟨z1, z2⟩
          exact absurd (z1.symm.trans hx) z2
      · rw [if_neg hx]
        exact ⟨fun z => ⟨z, fun y => hx (by rw [y]; exact ip)⟩, fun z => z.1⟩
/-- stems are told by the places of the ties alone -/
theorem rch_frames : ∀ {ts us : List Tie}, ts.length = us.length → (∀ (i : Nat) t u, ts[i]? = some t → us[i]? = some u → (u.one = t.one ∧ u.other = t.other) ∨ (u.one = t.other ∧ u.other = t.one)) → ∀ {a b : Int}, Rch ts a b → Rch us a b := by
  intro ts us hl h a b r
  refine r.ind (fun x => Rch us a x) .refl fun x y k hx ad => ?_
  obtain ⟨t, ht, _, e⟩ := ad
  obtain ⟨i, hi, rfl⟩ := List.getElem_of_mem ht
  have hu : us[i]? = some us[i] := List.getElem?_eq_getElem (by omega)
  have w := h i _ _ (List.getElem?_eq_getElem hi) hu
  refine hx.trans (Rch.adj (k := us[i].foe) ⟨us[i], List.getElem_mem _, rfl, ?_⟩)
  rcases w with ⟨w1, w2⟩ | ⟨w1, w2⟩ <;> rcases e with ⟨e1, e2⟩ | ⟨e1, e2⟩
  · exact .inl ⟨by omega, by omega⟩
  · exact .inr ⟨by omega, by omega⟩
  · exact .inr ⟨by omega, by omega⟩
  · exact .inl ⟨by omega, by omega⟩
def Framed (ts us : List Tie) : Prop := ts.length = us.length ∧ ∀ (i : Nat) t u, ts[i]? = some t → us[i]? = some u → (u.one = t.one ∧ u.other = t.other) ∨ (u.one = t.other ∧ u.other = t.one)
theorem Framed.symm {ts us : List Tie} (h : Framed ts us) : Framed us ts := ⟨h.1.symm, fun i u t e1 e2 => by
  rcases h.2 i t u e2 e1 with ⟨w1, w2⟩ | ⟨w1, w2⟩
  · exact .inl ⟨w1.symm, w2.symm⟩
  · exact .inr ⟨w2.symm, w1.symm⟩⟩
theorem Framed.take {ts us : List Tie} (h : Framed ts us) (k : Nat) : Framed (ts.take k) (us.take k) := by
  refine ⟨by rw [List.length_take, List.length_take, h.1], fun i t u e1 e2 => ?_⟩
  by_cases hk : i < k
  · rw [List.getElem?_take_of_lt hk] at e1 e2
    exact h.2 i t u e1 e2
  · rw [List.getElem?_take] at e1
    rw [if_neg hk] at e1
    cases e1
theorem Framed.map {ts : List Tie} {f : Tie → Tie} (h : ∀ t ∈ ts, ((f t).one = t.one ∧ (f t).other = t.other) ∨ ((f t).one = t.other ∧ (f t).other = t.one)) : Framed ts (ts.map f) := by
  refine ⟨by rw [List.length_map], fun i t u e1 e2 => ?_⟩
  rw [List.getElem?_map, e1] at e2
  cases e2
  exact h t (List.mem_of_getElem? e1)
theorem stems_framed {ts us : List Tie} (h : Framed ts us) : stemsTo us us.length = stemsTo ts ts.length := by
  unfold stemsTo
  rw [← h.1]
  refine List.filter_congr fun i hi => ?_
  have ir := mem_rng.mp hi
  have e1 : ts[i.toNat]? = some ts[i.toNat] := List.getElem?_eq_getElem (by omega)
  have l := h.1
  have e2 : us[i.toNat]? = some us[i.toNat] := List.getElem?_eq_getElem (by omega)
  have ht := h.take i.toNat
  rw [Bool.eq_iff_iff, stem_iff e1, stem_iff e2]
  have both : ∀ a b : Int, Rch (ts.take i.toNat) a b ↔ Rch (us.take i.toNat) a b := fun a b => ⟨fun r => rch_frames ht.1 ht.2 r, fun r => rch_frames ht.symm.1 ht.symm.2 r⟩
  rcases h.2 _ _ _ e1 e2 with ⟨w1, w2⟩ | ⟨w1, w2⟩
  · rw [w1, w2, both]
  · rw [w1, w2, both]
    exact ⟨fun z y => z y.symm, fun z y => z y.symm⟩
theorem stemsTo_rising (ts : List Tie) (k : Nat) : (stemsTo ts k).Pairwise (· < ·) := (rng_rising k).filter _
theorem stemsTo_mem {ts : List Tie} {k : Nat} {i : Int} : i ∈ stemsTo ts k ↔ (0 ≤ i ∧ i < k) ∧ stemB ts i.toNat = true := by
  unfold stemsTo
  rw [List.mem_filter, mem_rng]
theorem stems_own (ts : List Tie) : stemsTo ((stemsTo ts ts.length).map fun i => tieN ts i.toNat) (stemsTo ts ts.length).length = rng (stemsTo ts ts.length).length := by
  generalize hS : stemsTo ts ts.length = S
  unfold stemsTo
  rw [List.filter_eq_self]
  intro j hj
  have jr := mem_rng.mp hj
  have hjl : j.toNat < S.length := by omega
  have ej : (S.map fun i => tieN ts i.toNat)[j.toNat]? = some (tieN ts S[j.toNat].toNat) := by
    rw [List.getElem?_map, List.getElem?_eq_getElem hjl]
    rfl
  have hm : S[j.toNat] ∈ stemsTo ts ts.length := by rw [hS]; exact List.getElem_mem _
  obtain ⟨⟨m0, m1⟩, mb⟩ := stemsTo_mem.mp hm
  have et : ts[S[j.toNat].toNat]? = some (tieN ts S[j.toNat].toNat) := by
    have h : S[j.toNat].toNat < ts.length := by omega
    rw [List.getElem?_eq_getElem h, tieN_of (List.getElem?_eq_getElem h)]
  rw [stem_iff ej]
  rw [stem_iff et] at mb
  refine fun r => mb (r.mono fun t ht => ?_)
  rw [← List.map_take, List.mem_map] at ht
  obtain ⟨x, hx, rfl⟩ := ht
  obtain ⟨a, ha, rfl⟩ := List.getElem_of_mem hx
  rw [List.length_take] at ha
  rw [List.getElem_take]
  have hx' : S[a] ∈ stemsTo ts ts.length := by rw [hS]; exact List.getElem_mem _
  obtain ⟨⟨x0, x1⟩, _⟩ := stemsTo_mem.mp hx'
  have rise : S.Pairwise (· < ·) := by rw [← hS]; exact stemsTo_rising _ _
  have lt : S[a] < S[j.toNat] := List.pairwise_iff_getElem.mp rise a j.toNat (by omega) hjl (by omega)
  have h : S[a].toNat < ts.length := by omega
  rw [tieN_of (List.getElem?_eq_getElem h)]
  rw [List.mem_iff_getElem]
  exact ⟨S[a].toNat, by rw [List.length_take]; omega, by rw [List.getElem_take]⟩
/-! ### neighbours, and what a walk has come to (mathematics) -/
abbrev Nb := Int × Bool
def nb1 (t : Tie) (i : Int) : List Nb := (if i = t.one then [(t.other, t.foe)] else []) ++ (if i = t.other then [(t.one, t.foe)] else [])
def nbs (ts : List Tie) (i : Int) : List Nb := ts.flatMap fun t => nb1 t i
theorem nbs_snoc (ts : List Tie) (t : Tie) (i : Int) : nbs (ts ++ [t]) i = nbs ts i ++ nb1 t i := by
  unfold nbs
  rw [List.flatMap_append]
  simp
theorem nb1_len (t : Tie) (i : Int) : (nb1 t i).length ≤ 2 := by
  unfold nb1
  rw [List.length_append]
  split <;> split <;> simp
theorem nbs_len (ts : List Tie) (i : Int) : (nbs ts i).length ≤ 2 * ts.length := by
  induction ts with
  | nil => simp [nbs]
  | cons t ts ih =>
    have h := nb1_len t i
    unfold nbs at ih ⊢
    rw [List.flatMap_cons, List.length_append, List.length_cons]
    omega
theorem mem_nbs {ts : List Tie} {i : Int} {p : Nb} : p ∈ nbs ts i ↔ Adj ts i p.1 p.2 := by
  unfold nbs Adj nb1
  rw [List.mem_flatMap]
  constructor
  · rintro ⟨t, ht, h⟩
    refine ⟨t, ht, ?_⟩
    rcases List.mem_append.mp h with h | h
    · split at h
      · rename_i e
        rw [List.mem_singleton] at h
        subst h
        exact ⟨rfl, .inl ⟨e.symm, rfl⟩⟩
      · simp at h
    · split at h
      · rename_i e
        rw [List.mem_singleton] at h
        subst h
        exact ⟨rfl, .inr ⟨rfl, e.symm⟩⟩
      · simp at h
  · rintro ⟨t, ht, e, h⟩
    refine ⟨t, ht, List.mem_append.mpr ?_⟩
    obtain ⟨p1, p2⟩ := p
    simp only at e h
    rcases h with ⟨h1, h2⟩ | ⟨h1, h2⟩
    · left
      rw [if_pos h1.symm, List.mem_singleton, ← e, ← h2]
    · right
      rw [if_pos h2.symm, List.mem_singleton, ← e, ← h1]
theorem pigeon : ∀ (n : Nat) (xs : List Int), xs.Nodup → (∀ x ∈ xs, 0 ≤ x ∧ x < n) → xs.length ≤ n
  | 0, xs, _, h => by
    cases xs with
    | nil => simp
    | cons x r =>
      have := h x (by simp)
      omega
  | n + 1, xs, nd, h => by
    have q := pigeon n (xs.erase (n : Int)) (nd.erase _) fun x hx => by
      have h1 := h x (List.mem_of_mem_erase hx)
      have h2 : x ≠ n := (List.Nodup.mem_erase_iff nd).mp hx |>.1
      omega
    have l := List.length_erase (a := (n : Int)) (l := xs)
    split at l
    · omega
    · omega
structure SF (ts : List Tie) (s : Int) (ks : List Nb) (wl ex : List Int) : Prop where
  nd : (ks.map (·.1)).Nodup
  rp : ∀ p ∈ ks, RP ts s p.1 p.2
  st : s ∈ ks.map (·.1)
  sub : ∀ x ∈ wl, x ∈ ks.map (·.1)
  le : wl.length ≤ ks.length
  cl : ∀ x ∈ ks.map (·.1), x ∉ wl → x ∉ ex → ∀ y k, Adj ts x y k → y ∈ ks.map (·.1)
theorem SF.keys {ts : List Tie} {s : Int} {ks : List Nb} {wl ex : List Int} (h : SF ts s ks wl ex) {x : Int} (hx : x ∈ ks.map (·.1)) : ∃ b, (x, b) ∈ ks ∧ RP ts s x b := by
  obtain ⟨p, hp, rfl⟩ := List.mem_map.mp hx
  exact ⟨p.2, hp, h.rp p hp⟩
theorem SF.few {ts : List Tie} {n : Nat} {s : Int} {ks : List Nb} {wl ex : List Int} (h : SF ts s ks wl ex) (ok : ∀ t ∈ ts, TieOk n t) (hs : 0 ≤ s ∧ s < n) : ks.length ≤ n := by
  have q := pigeon n (ks.map (·.1)) h.nd fun x hx => by
    obtain ⟨b, _, hb⟩ := h.keys hx
    exact Rch.rng ok hs ⟨b, hb⟩
  rw [List.length_map] at q
  exact q
theorem SF.all {ts : List Tie} {s : Int} {ks : List Nb} (h : SF ts s ks [] []) (z : Int) : z ∈ ks.map (·.1) ↔ Rch ts s z := by
  constructor
  · intro hz
    obtain ⟨b, _, hb⟩ := h.keys hz
    exact ⟨b, hb⟩
  · intro hz
    exact hz.ind (fun x => x ∈ ks.map (·.1)) h.st fun x y k hx ad => h.cl x hx (by simp) (by simp) y k ad
theorem SF.pop {ts : List Tie} {s p : Int} {ks : List Nb} {wl : List Int} (h : SF ts s ks (wl ++ [p]) []) : SF ts s ks wl [p] :=
  ⟨h.nd, h.rp, h.st, fun x hx => h.sub x (List.mem_append_left _ hx), by have := h.le; rw [List.length_append] at this; omega, fun x hx h1 h2 => h.cl x hx (fun z => by
    rcases List.mem_append.mp z with z | z
    · exact h1 z
    · exact h2 z) (by simp)⟩
theorem SF.push {ts : List Tie} {s p y : Int} {b f : Bool} {ks : List Nb} {wl : List Int} (h : SF ts s ks wl [p]) (hp : RP ts s p b) (ad : Adj ts p y f) (hy : y ∉ ks.map (·.1)) : SF ts s (ks ++ [(y, b ^^ f)]) (wl ++ [y]) [p] := by
  have em : (ks ++ [(y, b ^^ f)]).map (·.1) = ks.map (·.1) ++ [y] := by rw [List.map_append]; rfl
  refine ⟨?_, fun q hq => ?_, ?_, fun x hx => ?_, ?_, fun x hx h1 h2 z k hz => ?_⟩
  · rw [em, List.nodup_append]
    refine ⟨h.nd, by simp, fun x hx z hz e => ?_⟩
    rw [List.mem_singleton] at hz
    subst hz
    subst e
    exact hy hx
  · rcases List.mem_append.mp hq with q1 | q1
    · exact h.rp q q1
    · rw [List.mem_singleton] at q1
      subst q1
      exact hp.step ad
  · rw [em]
    exact List.mem_append_left _ h.st
  · rw [em]
    rcases List.mem_append.mp hx with q1 | q1
    · exact List.mem_append_left _ (h.sub x q1)
    · exact List.mem_append_right _ q1
  · rw [List.length_append, List.length_append]
    have := h.le
    simp
    omega
  · rw [em] at hx ⊢
    rcases List.mem_append.mp hx with q1 | q1
    · exact List.mem_append_left _ (h.cl x q1 (fun q2 => h1 (List.mem_append_left _ q2)) h2 z k hz)
    · exact absurd (List.mem_append_right _ q1) h1
theorem SF.done {ts : List Tie} {s p : Int} {ks : List Nb} {wl : List Int} (h : SF ts s ks wl [p]) (hp : ∀ q ∈ nbs ts p, q.1 ∈ ks.map (·.1)) : SF ts s ks wl [] :=
  ⟨h.nd, h.rp, h.st, h.sub, h.le, fun x hx h1 _ y k ad => by
    by_cases e : x = p
    · subst e
      exact hp (y, k) (mem_nbs.mpr ad)
    · exact h.cl x hx h1 (fun z => e (List.mem_singleton.mp z)) y k ad⟩
theorem room1 {k : Nat} {A : PySem.Around} (r : Room k A) : A.units + 1 < cLine := by have := r.un; omega
/-! ### the law: the least place that each comes to -/
def lf (f : Int → Int) (n : Nat) : List V := (rng n).map fun i => V.int (f i)
theorem lf_len (f : Int → Int) (n : Nat) : (lf f n).length = n := by unfold lf; rw [List.length_map, rng_length]
theorem lf_get? (f : Int → Int) {n j : Nat} (h : j < n) : (lf f n)[j]? = some (.int (f j)) := by
  unfold lf rng
  rw [List.map_map, List.getElem?_map, List.getElem?_range h]
  rfl
theorem lf_at (f : Int → Int) {n : Nat} {i : Int} (h0 : 0 ≤ i) (h1 : i < n) : atI (lf f n) i = some (.int (f i)) := by
  have e : ((i.toNat : Nat) : Int) = i := by omega
  refine atI_of h0 ?_
  rw [lf_get? f (by omega), e]
theorem lf_set (f : Int → Int) {n : Nat} {i y : Int} (h0 : 0 ≤ i) (h1 : i < n) : (lf f n).set i.toNat (.int y) = lf (fun x => if x = i then y else f x) n := by
  refine List.ext_getElem? fun j => ?_
  rw [List.getElem?_set]
  by_cases hj : j < n
  · by_cases e : i.toNat = j
    · rw [if_pos e, if_pos (by rw [lf_len]; omega), lf_get? _ hj, if_pos (by omega)]
    · rw [if_neg e, lf_get? _ hj, lf_get? _ hj, if_neg (by omega)]
  · have e : i.toNat ≠ j := by omega
    rw [if_neg e, List.getElem?_eq_none (by rw [lf_len]; omega), List.getElem?_eq_none (by rw [lf_len]; omega)]
theorem ixN_of {n : Nat} {i : Int} (h0 : 0 ≤ i) (h1 : i < n) : ixN n i = some i.toNat := by
  unfold ixN
  rw [if_pos (by omega), if_pos (by omega)]
/-! ### enumerate of a tuple -/
set_option maxHeartbeats 1000000 in
theorem meets_enumOne {v : Value} {o : Obj} {S : Heap → Prop} (B : Begins v o S) : Meets (Builtin.«enumerate.__new__» ⟨[.type "enumerate", v], []⟩) (fun _ R s => S s.heap ∧
      R (.ok (.ret (.ref (s.heap.push o).objs.size))) { s with heap := (s.heap.push o).push { cls := .type "enumerate", data := .fields #[.none, .bool false, .ref s.heap.objs.size, rawInt 0, .none, .none] } }) :=
  .of_wp fun prog w A R s h => by
    obtain ⟨hp, g, d, tk, os⟩ := s
    obtain ⟨h1, h⟩ := h
    have sub0 := sub_enumerate
    have begun : ∀ {A' : PySem.Around} {E : Value → Shared → Prop} {Q : Value → Shared → Prop}, Q (.ref hp.objs.size) ⟨hp.push o, g, d, tk, os⟩ → wpAny (model prog w) A' (pyIter v) Q E ⟨hp, g, d, tk, os⟩ := fun q => B.iter prog w _ _ ⟨hp, g, d, tk, os⟩ _ h1 q
    wp_walk using begun
    refine wpAny_stack_any fun st => wpAny_pure ?_
    split
    · rename_i c _ _ _ _ _
      cases (c == Value.type "enumerate")
      all_goals
        wp_walk using begun
        exact ⟨_, rfl, h⟩
    · wp_walk using begun
      exact ⟨_, rfl, h⟩
theorem call_enumT {P : Program} {w : World} {A : PySem.Around} {E : Value → Shared → Prop} {s : Shared} {t : Addr} {items : Array Value} {Q : Value → Shared → Prop} (ht : s.heap.IsTuple t items)
    (h : ∀ h', IsEnum h' (s.heap.objs.size + 1) s.heap.objs.size 0 .none → h'.IsTupleIter s.heap.objs.size t 0 → (∀ b o, s.heap.get? b = some o → h'.get? b = some o) → Q (.ref (s.heap.objs.size + 1)) { s with heap := h' }) : wpAny (model P w) A (call (.type "enumerate") [.ref t]) Q E s := by
  refine callType_new PySem.F.called_enumerate (by decide) (PySem.F.typeCall_enumerate_1 _) (PySem.F.newCall_enumerate_1 _) (fun ob => PySem.F.args_object_init_2 ob _) PySem.F.entry_enumerate_new (meets_enumOne (begins_tuple t items)) ⟨ht, ?_⟩
  have size1 := Heap.size_push s.heap { cls := .type "tuple_iterator", data := .fields #[.ref t, .int 0 0] }
  have en := Heap.get?_push_size (s.heap.push { cls := .type "tuple_iterator", data := .fields #[.ref t, .int 0 0] }) (o := { cls := .type "enumerate", data := .fields #[.none, .bool false, .ref s.heap.objs.size, rawInt 0, .none, .none] }) rfl
  rw [size1] at en
  show _ ∧ _
  rw [size1]
  exact ⟨⟨_, en, rfl⟩, h _ en ⟨_, Heap.get?_push_of_some _ (Heap.get?_push_size _ rfl), rfl, rfl⟩ fun b o e => Heap.get?_push_of_some _ (Heap.get?_push_of_some _ e)⟩
/-- the turns: a new pair each, of the number and the part -/
def ItN (K : PySem.W.Frag) (a : Addr) : It where
  go := fun i H => ∃ (xs : List V) (x : V), SqT K H a xs ∧ xs[i]? = some x
  yld := fun i H v H' => ∃ T x, v = .ref T ∧ H T = none ∧ H' = upd H T (.tup [.int (i : Nat), x]) ∧ ∀ xs, SqT K H a xs → xs[i]? = some x
  stop := fun i H => ∃ xs : List V, SqT K H a xs ∧ xs.length ≤ i
theorem turn_enumT {P : Program} {w : World} {K : PySem.W.Frag} {elts : List Expr} {kk : Nat} {tpos : Pos} (a e it : Addr) (n1 : e ≠ it) (n2 : a ≠ it) (n3 : e ≠ a) :
    Turn P w K (.Tuple elts kk tpos) (ItN K a) [e, it] e (fun i h => (∃ old, IsEnum h e it ((i : Nat) : Int) old) ∧ h.IsTupleIter it a i) where
  mem := List.mem_cons_self
  obj := by
    rintro i h ⟨⟨old, he⟩, o, ho, hc, hd⟩ b hb
    rcases List.mem_cons.mp hb with rfl | hb
    · exact ⟨_, he, fun v q => nomatch q⟩
    · rw [List.mem_singleton.mp hb]
      exact ⟨o, ho, fun v q => by rw [hd] at q; cases q⟩
  keep := by
    rintro i h h' ⟨⟨old, he⟩, hit⟩ kp
    exact ⟨⟨old, kp e (by simp) _ he⟩, hit.at fun o q => kp it (by simp) o q⟩
  item := by
    intro X hP hw hK hc i pins s σ H E I hf st hg
    subst hP hw hK
    obtain ⟨⟨old, he⟩, hit⟩ := st
    obtain ⟨xs, x, hq, hx⟩ := hg
    obtain ⟨its, rv, tup, _⟩ := I.tuple hq
    obtain ⟨u, hu, ru⟩ := rv.get hx
    have le := Heap.lt_size he
    have li : it < s.heap.objs.size := let ⟨_, q, _⟩ := hit; Heap.lt_size q
    have lt : i < its.toArray.size := by simpa using (List.getElem?_eq_some_iff.mp hu).1
    refine wpAny_pyNext_enum_itemD (Draws.tuple (A := X.A.in1) (I.ok.hd hc) it a n2 its.toArray) he ⟨hit, tup⟩ lt n1 (by simp [n1, n3]) fun x' h' tk ex out st' new _ kp => ?_
    obtain rfl : u = x' := Option.some.inj (((by simpa using hu) : its.toArray[i]? = some u).symm.trans ex)
    refine ⟨_, rfl, wpAny_letOwnedTupleGo_enum (s := { s with heap := h', toks := tk + 1 }) out fun h2 he2 sb => ?_⟩
    have new2 : h2.get? s.heap.objs.size = some { cls := .type "tuple", data := .seq #[.int i tk, u] } := (sb.2 _ (Nat.ne_of_gt le)).trans new
    have objT : ObjOk X.prog X.w (upd H s.heap.objs.size (.tup [.int (i : Nat), x])) h2 s.heap.objs.size (.tup [.int (i : Nat), x]) := ⟨by show 2 ≤ sizeLine; decide, [.int i tk, u], .cons ⟨_, rfl⟩ (.cons ru .nil), ⟨_, new2, rfl, _, rfl⟩⟩
    have J : Inv X pins σ (upd H s.heap.objs.size (.tup [.int (i : Nat), x])) { s with heap := h2, toks := tk + 1 } := I.turnedNew (ch := [e, it]) (fun b ob hb q => by
      simp only [List.mem_cons, List.not_mem_nil, or_false, not_or] at hb
      exact (sb.2 b hb.1).trans (kp b ob hb.1 hb.2 q)) hf (Nat.le_refl _) objT
    refine ⟨.ref s.heap.objs.size, _, J, rfl, ⟨_, x, rfl, I.hok.fresh (Nat.le_refl _), rfl, fun ys hy => by rw [I.tuple_inj hy hq]; exact hx⟩, ⟨⟨u, ?_⟩, st'.1.at fun o q => (sb.2 it (Ne.symm n1)).trans q⟩, fun b hb => ?_⟩
    · rw [show ((i + 1 : Nat) : Int) = (i : Int) + 1 from by omega]
      exact he2
    · have lb : b < s.heap.objs.size := by
        rcases List.mem_cons.mp hb with rfl | hb
        · exact le
        · rw [List.mem_singleton.mp hb]
          exact li
      rw [upd_ne (Nat.ne_of_lt lb)]
      exact (hf b hb).1
  done := by
    intro X hP hw hK hc i pins s σ H E I hf st hg
    subst hP hw hK
    obtain ⟨⟨old, he⟩, hit⟩ := st
    obtain ⟨xs, hq, hx⟩ := hg
    obtain ⟨its, rv, tup, _⟩ := I.tuple hq
    have hl := rv.length
    obtain ⟨f0, f1, f2, f3, f4, f5⟩ := hf it (by simp)
    have D : Draws X.prog X.w X.A.in1 it [it, a] i (fun _ _ => False) (fun j h => j = i ∧ h.IsTupleIter it a i ∧ h.IsTuple a its.toArray) := {
      live := fun j h z => let ⟨_, ⟨o, q, _⟩, _⟩ := z; ⟨o, q⟩
      frame := fun j h h' z kp => ⟨z.1, z.2.1.at fun o q => kp it (by simp) o q, z.2.2.at fun o q => kp a (by simp) o q⟩
      item := fun j s' Q E' hj z => absurd z.1 (Nat.ne_of_lt hj)
      done := fun s' Q E' z fin => wpAny_nextOf_tuple_end (I.ok.hd hc) z.2.1 z.2.2 (by simp; omega) fin }
    exact wpAny_pyNext_enum_endD D he ⟨rfl, hit, tup⟩ fun h' eb => ⟨rfl, I.turned (t' := s.toks) (fun b o hb q => eb b o hb q) f0 f1 f3 f4 f5⟩
  self := fun A i s Q E st h => let ⟨⟨_, he⟩, _⟩ := st; wpAny_pyIter_enum he h
def iEnT (K : PySem.W.Frag) (ta : TA) : TI := fun σ H R => ta σ H fun vs H1 => ∃ a xs, vs = [.ref a] ∧ SqT K H1 a xs ∧ R (ItN K a) H1
theorem pi_enumT {X : Cx} {e : Expr} {ta : TA} {p pos tpos : Pos} {elts : List Expr} {kk : Nat} (hg : Gl X "enumerate") (hm : X.mg "enumerate" = none) (ha : PA X [e] ta) (hs : starEach [e] X.env = [(false, eval e X.env)] := by rfl) :
    PI X (.Tuple elts kk tpos) (.Call (.Name "enumerate" p) [e] [] pos) (iEnT X.K ta) := by
  refine ⟨fun pins s σ H R I want => Call_ (ld_blt I hg hm boot_enumerate (PyProof.Rows.callWith_type1 (thn (ha.run pos pins s σ H _ I want) fun us s1 got => ?_) hs rfl))⟩
  obtain ⟨vs, H1, J, rel, a, xs, ex, hq, q⟩ := got
  subst ex
  obtain ⟨u, eu, r1⟩ := vals1 rel
  subst eu
  obtain rfl : u = Value.ref a := r1
  obtain ⟨its, rv, tup, _⟩ := J.tuple hq
  have la : a < s1.heap.objs.size := let ⟨_, q, _⟩ := tup; Heap.lt_size q
  refine call_enumT (items := its.toArray) tup fun h' he hit kp => wpAny_pyIter_enum he ?_
  have J2 : Inv X pins σ H1 { s1 with heap := h' } := J.kept (t' := s1.toks) kp
  refine ⟨s1.heap.objs.size + 1, [s1.heap.objs.size + 1, s1.heap.objs.size], _, _, H1, rfl, J2, turn_enumT a (s1.heap.objs.size + 1) s1.heap.objs.size (Nat.succ_ne_self _) (Nat.ne_of_lt la) (Nat.ne_of_gt (Nat.lt_succ_of_lt la)), ⟨⟨.none, he⟩, hit⟩, fun b hb => ?_, q⟩
  have lb : s1.heap.objs.size ≤ b := by
    rcases List.mem_cons.mp hb with rfl | hb
    · exact Nat.le_succ _
    · rw [List.mem_singleton.mp hb]
      exact Nat.le_refl _
  exact J.fpOk lb (J.hok.fresh lb)
theorem walk_enumT {K : PySem.W.Frag} {a : Addr} {xs : List V} : Walk (ItN K a) xs.length (fun H => SqT K H a xs) (YPair (fun i => some (.int (i : Nat))) (fun i => xs[i]?)) :=
  ⟨fun i H hi h => ⟨xs, xs[i], h, List.getElem?_eq_getElem hi⟩, fun H h => ⟨xs, h, Nat.le_refl _⟩, fun i H x H' hi h y => by
    obtain ⟨T, z, e1, e2, e3, e4⟩ := y
    exact ⟨T, _, z, e1, e2, e3, rfl, e4 xs h⟩⟩
/-! ### flats: the deck -/
def FDk (H : Hp) (d : Addr) : Prop := ∃ ns : List Int, H d = some (.lst (ns.map V.int)) ∧ ns.length ≤ 800
theorem FDk.same {H H' : Hp} {d : Addr} (h : FDk H d) (s : Same H H') : FDk H' d := by
  obtain ⟨ns, h1, h2⟩ := h
  exact ⟨ns, s _ _ h1, h2⟩
theorem FDk.kp {H H' : Hp} {d e : Addr} (h : FDk H d) (k : Kp e e H H') (ne : d ≠ e) : FDk H' d := by
  obtain ⟨ns, h1, h2⟩ := h
  exact ⟨ns, k _ _ ne ne h1, h2⟩
theorem FDk.ned {H : Hp} {d p : Addr} (h : FDk H d) (np : H p = none) : p ≠ d := by
  obtain ⟨ns, h1, h2⟩ := h
  exact (ne_of_none h1 np).symm
theorem FDk.tk {H H' : Hp} {d : Addr} (h : FDk H d) (k : Kp d d H H') : Tk H H' := fun a xs e => by
  obtain ⟨ns, h1, h2⟩ := h
  have : a ≠ d := fun z => by rw [z, h1] at e; cases e
  exact k _ _ this this e
theorem cutV_ints (ns : List Int) (lo hi : Option Int) : ∃ ms : List Int, cutV (ns.map V.int) lo hi = ms.map V.int ∧ ms.length ≤ ns.length := by
  refine ⟨(ns.drop (HT.sIx ns.length 0 lo)).take (HT.sIx ns.length ns.length hi - HT.sIx ns.length 0 lo), ?_, ?_⟩
  · unfold cutV
    rw [List.length_map, List.map_take, List.map_drop]
  · rw [List.length_take, List.length_drop]
    omega
def spMixed : Sp := fun vs H Q _ => ∃ a : Int, vs = [.int a] ∧ ∀ r, 0 ≤ r → r < 2147483587 → Q (.int r) H
def spDeckF (K : PySem.W.Frag) : Sp := fun vs H Q _ => ∃ (a : Addr) (ns : List Int), vs = [.ref a] ∧ SqL K H a (ns.map V.int) ∧ ns.length ≤ 63 ∧
  ∀ d H', Same H H' → H d = none → FDk H' d → Q (.ref d) H'
def spTake : Sp := fun vs H Q _ => ∃ (d : Addr) (m : Int), vs = [.ref d, .int m] ∧ FDk H d ∧ 0 < m ∧ m < 2 ^ 62 ∧ ∀ v H', 0 ≤ v → v < m → FDk H' d → Kp d d H H' → Q (.int v) H'
section
variable {P : Program} {w : World} {K : PySem.W.Frag} {mg : Str → Option Value} {base : Heap}
theorem ok_l_mixed {f : Addr} {fd : FuncData} (F : Fun K "_law_mixed" "_law_mixed" s_l_mixed f fd)  : FnOk P w K mg base CX0 1 f fd ["_law_number"] spMixed := by
  refine F.ok sc_l_mixed (fun vs H Q E h => ?_) (fun cdv A outer s H vs Q E hr h => ?_)
  · obtain ⟨a, rfl, _⟩ := h
    rfl
  · obtain ⟨a, rfl, q⟩ := h
    refine ⟨_, (pss_cons (ps_set (i := 0) sc_l_mixed.nd rfl (.inl rfl) (pe_op op_mod (pe_op op_add (pe_op op_mul (pe_op op_mod (pv 0) pe_int) pe_int) pe_int) pe_int))
      (pss_cons (ps_set (i := 0) sc_l_mixed.nd rfl (.inl rfl) (pe_op op_mod (pe_op op_add (pe_op op_add (pe_op op_mul (pv 0) (pv 0)) (pe_op op_mul pe_int (pv 0))) pe_int) pe_int))
      (pss_one (ps_ret (pe_op op_mod (pe_op op_add (pe_op op_mul (pv 0) pe_int) pe_int) pe_int))))), ?_⟩
    refine ⟨.int a, rfl, a, _, rfl, rfl, show (0 : Int) < 2147483629 by decide, _, _, rfl, rfl, .inr ⟨by decide, by decide⟩, _, _, rfl, rfl, _, _, rfl, rfl, show (0 : Int) < 2147483647 by decide, ?_⟩
    have r1 := mod_rng (a := a % 2147483629 * 48271 + 7) (m := 2147483647) (by decide)
    refine ⟨_, rfl, _, rfl, (a % 2147483629 * 48271 + 7) % 2147483647, (a % 2147483629 * 48271 + 7) % 2147483647, rfl, rfl, .inr ⟨by omega, by omega⟩, _, rfl, _, (a % 2147483629 * 48271 + 7) % 2147483647, rfl, rfl, .inr ⟨by omega, by omega⟩, _, _, rfl, rfl, _, _, rfl, rfl, _, _, rfl, rfl, show (0 : Int) < 2147483629 by decide, ?_⟩
    refine ⟨.int _, rfl, _, _, rfl, rfl, .inr ⟨by decide, by decide⟩, _, _, rfl, rfl, _, _, rfl, rfl, show (0 : Int) < 2147483587 by decide, ?_⟩
    exact q _ (mod_rng (by decide)).1 (mod_rng (by decide)).2
theorem ok_l_deck {f : Addr} {fd : FuncData} (F : Fun K "_law_deck" "_law_deck" s_l_deck f fd) (M : Free mg) (D_l_mixed : Df P w K mg base 1 "_law_mixed" ["_law_number"] spMixed) : FnOk P w K mg base CX0 2 f fd ["_law_script"] (spDeckF K) := by
  obtain ⟨f_l_mixed, fd_l_mixed, G_l_mixed, g_l_mixed, k_l_mixed, b_l_mixed⟩ := D_l_mixed
  refine F.ok sc_l_deck (fun vs H Q E h => ?_) (fun cdv A outer s H vs Q E hr h => ?_)
  · obtain ⟨a, ns, rfl, _⟩ := h
    rfl
  · obtain ⟨a, ns, rfl, hS, hl, q⟩ := h
    refine ⟨_, (pss_cons (ps_set (i := 1) sc_l_deck.nd rfl (.inl rfl) (pe_callTy call_list_of (by rfl) M.list (by decide +kernel) (pa_cons (pe_slice sl_list (pv 0) po_none (po_some pe_int)) pa_nil)))
      (pss_cons (ps_set (i := 2) sc_l_deck.nd rfl (.inl rfl) (pe_op op_add pe_int (pe_op op_mod (pe_callB (cr_sum rfl) (by rfl) M.sum (by decide +kernel) (pa_cons (pv 1) pa_nil)) pe_int)))
      (pss_cons (ps_for PassesOwn.never rfl (pi_range1 (by rfl) M.range (pa_cons pe_int pa_nil)) (pg_name (i := 3) sc_l_deck.nd rfl (.inl rfl))
        (pss_cons (ps_set (i := 2) sc_l_deck.nd rfl (.inl rfl) (pe_call G_l_mixed (hr.mono (by decide)) (by rfl) g_l_mixed k_l_mixed b_l_mixed .nil pass0 (pa_cons (pe_op op_add (pv 2) (pv 3)) pa_nil)))
        (pss_one (ps_if (pt_cmpR op_gt (pv 3) pe_int (nomark _))
          (pss_one (ps_expr (pe_bm PySem.F.plainAttrs_list PySem.F.slot_list_append PySem.F.type_list_append mt_append (pv 1) (pa_cons (pv 2) pa_nil))))
          pss_nil))))
      (pss_one (ps_ret (pe_revL (pv 1))))))), ?_⟩
    obtain ⟨ms, em, lm⟩ := cutV_ints ns none (some 63)
    refine ⟨.ref a, rfl, 63, rfl, a, _, rfl, hS, fun p1 n1 => ⟨p1, _, rfl, .inl (SqL.of upd_same), fun p2 n2 => ?_⟩⟩
    rw [em] at n2 ⊢
    have s1 : Same H (upd H p1 (.lst (ms.map V.int))) := same_new n1
    have s2 := s1.trans (same_new (o := .lst (ms.map V.int)) n2)
    have h2 : (upd (upd H p1 (.lst (ms.map V.int))) p2 (.lst (ms.map V.int))) p2 = some (.lst (ms.map V.int)) := upd_same
    have f2 : H p2 = none := s1.free n2
    generalize upd (upd H p1 (.lst (ms.map V.int))) p2 (.lst (ms.map V.int)) = H2 at s2 h2
    refine ⟨.ref p2, rfl, p2, ms, rfl, SqL.of h2, _, _, rfl, rfl, show (0 : Int) < 2147483647 by decide, _, _, rfl, rfl, ?_⟩
    refine ⟨700, rfl, by decide, by decide, ?_⟩
    refine for_range (lo := 0) (n := 700) (fun i σ' H' => ∃ (x : Int) (y3 : Option V) (ks : List Int), σ' = [some (.ref a), some (.ref p2), some (.int x), y3] ∧ H' p2 = some (.lst (ks.map V.int)) ∧ ks.length ≤ 63 + i ∧ Same H H') ⟨_, none, ms, rfl, h2, by omega, s2⟩ ?_ ?_
    · rintro i σ' H3 hi ⟨x, y3, ks, rfl, h3, l3, s3⟩
      refine ⟨.int x, rfl, .int (0 + (i : Nat)), rfl, _, _, rfl, rfl, _, rfl, fun r r0 r1 => ?_⟩
      refine ⟨.int (0 + (i : Nat)), rfl, _, _, rfl, rfl, _, rfl, ?_⟩
      refine ite2 (fun _ => ?_) (fun _ => ⟨_, _, ks, rfl, h3, by omega, s3⟩)
      refine ⟨.ref p2, rfl, .inl ⟨rfl, _, SqL.of h3⟩, .int r, rfl, p2, _, _, rfl, rfl, h3, small1000 (by rw [List.length_map]; omega), ?_⟩
      exact ⟨_, _, ks ++ [r], rfl, by rw [upd_same, List.map_append]; rfl, by rw [List.length_append]; show _ + 1 ≤ _; omega, Same.mut s3 f2⟩
    · rintro σ' H3 ⟨x, y3, ks, rfl, h3, l3, s3⟩
      refine ⟨.ref p2, rfl, p2, _, rfl, SqL.of h3, fun D nD => ?_⟩
      refine q D _ (s3.trans (same_new nD)) (s3.free nD) ⟨ks.reverse, by rw [upd_same, List.map_reverse], by rw [List.length_reverse]; omega⟩
theorem ok_l_take {f : Addr} {fd : FuncData} (F : Fun K "_law_take" "_law_take" s_l_take f fd) (D_l_mixed : Df P w K mg base 1 "_law_mixed" ["_law_number"] spMixed) : FnOk P w K mg base CX0 2 f fd ["_law_deck_here", "_law_most"] spTake := by
  obtain ⟨f_l_mixed, fd_l_mixed, G_l_mixed, g_l_mixed, k_l_mixed, b_l_mixed⟩ := D_l_mixed
  refine F.ok sc_l_take (fun vs H Q E h => ?_) (fun cdv A outer s H vs Q E hr h => ?_)
  · obtain ⟨d, m, rfl, _⟩ := h
    rfl
  · obtain ⟨d, m, rfl, hD, m0, m1, q⟩ := h
    refine ⟨_, (pss_cons (ps_if (pt_cmpR (op_eqE hr.units0) (pv 0) (pe_lst pa_nil) (nomark _))
        (pss_one (ps_ret pe_int))
        pss_nil)
      (pss_cons (ps_set (i := 2) sc_l_take.nd rfl (.inl rfl) (pe_bm0 PySem.F.plainAttrs_list PySem.F.slot_list_pop PySem.F.type_list_pop mt_pop (pv 0)))
      (pss_cons (ps_if (pt_cmpR op_ge (pv 2) (pe_op op_pow pe_int pe_int) (nomark _))
        (pss_cons (ps_expr (pe_bm PySem.F.plainAttrs_list PySem.F.slot_list_append PySem.F.type_list_append mt_append (pv 0) (pa_cons (pe_op op_fdivW (pv 2) (pv 1)) pa_nil)))
        (pss_one (ps_ret (pe_op op_mod (pv 2) (pv 1)))))
        pss_nil)
      (pss_one (ps_ret (pe_op op_mod (pe_op op_fdiv (pe_call G_l_mixed (hr.mono (by decide)) (by rfl) g_l_mixed k_l_mixed b_l_mixed .nil pass0 (pa_cons (pv 2) pa_nil)) pe_int) (pv 1))))))), ?_⟩
    obtain ⟨ns, hd, ln⟩ := hD
    refine ⟨.ref d, rfl, Nat.zero_le _, fun Z nZ => ⟨d, Z, _, rfl, rfl, SqL.of (same_new nZ _ _ hd), SqL.of upd_same, _, rfl, ?_⟩⟩
    have sZ := same_new (o := .lst []) nZ
    have hd1 := sZ _ _ hd
    generalize upd H Z (.lst []) = H1 at sZ hd1
    by_cases e : ns = []
    · subst e
      exact q 0 _ (by decide) m0 ⟨[], hd1, by simp⟩ (Same.kp sZ)
    · rw [show (ns.map V.int).isEmpty = false from by cases ns; exact absurd rfl e; rfl]
      have lpos := List.length_pos_iff.mpr e
      obtain ⟨c, ec⟩ : ∃ c, ns[ns.length - 1]? = some c := ⟨_, List.getElem?_eq_getElem (by omega)⟩
      refine ⟨.ref d, rfl, .inl ⟨rfl, _, SqL.of hd1⟩, d, _, .int c, rfl, rfl, hd1, by rw [List.length_map, List.getElem?_map, ec]; rfl, ?_⟩
      have hd2 : (upd H1 d (.lst (ns.map V.int).dropLast)) d = some (.lst (ns.dropLast.map V.int)) := by rw [upd_same, List.map_dropLast]
      have K2 : Kp d d H (upd H1 d (.lst (ns.map V.int).dropLast)) := (Same.kp sZ).trans Kp.at_d
      have l2 : ns.dropLast.length ≤ 799 := by rw [List.length_dropLast]; omega
      generalize upd H1 d (.lst (ns.map V.int).dropLast) = H2 at hd2 K2
      refine ⟨.int c, rfl, 10, 18, rfl, rfl, ⟨by decide, by decide, by decide⟩, _, _, rfl, rfl, _, rfl, ?_⟩
      refine ite2 (fun _ => ?_) (fun _ => ?_)
      · refine ⟨.ref d, rfl, .inl ⟨rfl, _, SqL.of hd2⟩, .int c, rfl, .int m, rfl, _, _, rfl, rfl, ⟨m0, ?_⟩, d, _, _, rfl, rfl, hd2, small1000 (by rw [List.length_map]; omega), ?_⟩
        · have h1 : m.natAbs < 2 ^ 62 := by omega
          have h2 := (Nat.log2_lt (n := m.natAbs) (k := 62) (by omega)).mpr h1
          omega
        · refine ⟨.int c, rfl, .int m, rfl, _, _, rfl, rfl, m0, ?_⟩
          exact q _ _ (mod_rng m0).1 (mod_rng m0).2 ⟨ns.dropLast ++ [c / m], by rw [upd_same, List.map_append]; rfl, by rw [List.length_append]; show _ + 1 ≤ _; omega⟩ (K2.trans Kp.at_d)
      · refine ⟨.int c, rfl, c, rfl, fun r r0 r1 => ⟨_, _, rfl, rfl, ⟨by decide, by decide⟩, .int m, rfl, _, _, rfl, rfl, m0, ?_⟩⟩
        exact q _ _ (mod_rng m0).1 (mod_rng m0).2 ⟨_, hd2, by omega⟩ K2
end
/-! ### flats: orders of ties; _law_corners -/
def PrV (H : Hp) (v : V) (q : Int × Int) : Prop := ∃ a, v = .ref a ∧ H a = some (.tup [.int q.1, .int q.2])
theorem PrV.tk {H H' : Hp} (k : Tk H H') {v : V} {p : Int × Int} (h : PrV H v p) : PrV H' v p := by
  obtain ⟨a, e, h⟩ := h
  exact ⟨a, e, k _ _ h⟩
theorem pr_tk {H H' : Hp} (k : Tk H H') {vs : List V} {qs : List (Int × Int)} (h : Paired (PrV H) vs qs) : Paired (PrV H') vs qs := Paired.mono (fun _ _ x => x.tk k) h
structure Rw (H : Hp) (A : List Addr) (rs : List (List Int)) : Prop where
  nd : A.Nodup
  len : A.length = rs.length
  each : ∀ (j : Nat) (a : Addr), A[j]? = some a → ∃ row, rs[j]? = some row ∧ H a = some (.lst (row.map V.int))
theorem Rw.ext {H H' : Hp} {A : List Addr} {rs : List (List Int)} (h : Rw H A rs) (k : ∀ a ∈ A, ∀ x, H a = some x → H' a = some x) : Rw H' A rs :=
  ⟨h.nd, h.len, fun j a e => by
    obtain ⟨row, e1, e2⟩ := h.each j a e
    exact ⟨row, e1, k a (List.mem_of_getElem? e) _ e2⟩⟩
theorem Rw.more {H : Hp} {p : Addr} {A : List Addr} {rs : List (List Int)} (h : Rw H A rs) (np : H p = none) (row : List Int) : Rw (upd H p (.lst (row.map V.int))) (A ++ [p]) (rs ++ [row]) := by
  have no : p ∉ A := fun z => by
    obtain ⟨j, e⟩ := List.getElem?_of_mem z
    obtain ⟨row, _, e2⟩ := h.each j p e
    rw [np] at e2
    cases e2
  have l := h.len
  refine ⟨List.nodup_append.mpr ⟨h.nd, by simp, fun a ha b hb e => no (by rw [List.mem_singleton.mp hb] at e; exact e ▸ ha)⟩, by simp [l], fun j a e => ?_⟩
  by_cases hj : j < A.length
  · rw [List.getElem?_append_left hj] at e
    obtain ⟨r, e1, e2⟩ := h.each j a e
    exact ⟨r, by rw [List.getElem?_append_left (by omega)]; exact e1, by rw [upd_ne (show a ≠ p from fun z => no (z ▸ List.mem_of_getElem? e))]; exact e2⟩
  · rw [List.getElem?_append_right (by omega)] at e
    have hj2 : j - A.length = 0 := by
      have := (List.getElem?_eq_some_iff.mp e).1
      simp at this
      omega
    rw [hj2] at e
    cases e
    exact ⟨row, by rw [List.getElem?_append_right (by omega), show j - rs.length = 0 by omega]; rfl, upd_same⟩
theorem Rw.put {H : Hp} {a : Addr} {j : Nat} {A : List Addr} {rs : List (List Int)} (h : Rw H A rs) (e : A[j]? = some a) (row : List Int) : Rw (upd H a (.lst (row.map V.int))) A (rs.set j row) := by
  have l := h.len
  refine ⟨h.nd, by simp [l], fun i b eb => ?_⟩
  have hj := (List.getElem?_eq_some_iff.mp e).1
  by_cases ij : j = i
  · subst ij
    rw [e] at eb
    cases eb
    exact ⟨row, by rw [List.getElem?_set_self (by omega)], upd_same⟩
  · obtain ⟨r, e1, e2⟩ := h.each i b eb
    refine ⟨r, by rw [List.getElem?_set_ne ij]; exact e1, ?_⟩
    have hi := (List.getElem?_eq_some_iff.mp eb).1
    rw [upd_ne (fun z => ij ?_)]
    · exact e2
    · have e' := (List.getElem?_eq_some_iff.mp e).2
      have eb' := (List.getElem?_eq_some_iff.mp eb).2
      refine Classical.byContradiction fun ne => ?_
      rcases Nat.lt_or_gt_of_ne ne with lt | lt
      · exact List.pairwise_iff_getElem.mp h.nd j i hj hi lt (by rw [e', eb', z])
      · exact List.pairwise_iff_getElem.mp h.nd i j hi hj lt (by rw [e', eb', z])
/-- rows of tie numbers: each tie in the rows of its two ends, once, and nowhere else -/
structure Ord (rs : List (List Int)) (es : List (Int × Int)) : Prop where
  ends : ∀ e ∈ es, (0 ≤ e.1 ∧ e.1 < (rs.length : Int)) ∧ (0 ≤ e.2 ∧ e.2 < (rs.length : Int)) ∧ e.1 ≠ e.2
  nd : ∀ row ∈ rs, row.Nodup
  mem : ∀ (p : Nat) (row : List Int), rs[p]? = some row → ∀ x : Int, x ∈ row ↔ ∃ (k : Nat) (e : Int × Int), x = (k : Int) ∧ es[k]? = some e ∧ (e.1 = (p : Int) ∨ e.2 = (p : Int))
theorem Ord.row_in {rs : List (List Int)} {es : List (Int × Int)} (h : Ord rs es) {row : List Int} (hr : row ∈ rs) : ∀ x ∈ row, 0 ≤ x ∧ x < (es.length : Int) := fun x hx => by
  obtain ⟨p, hp⟩ := List.getElem?_of_mem hr
  obtain ⟨k, e, rfl, ek, _⟩ := (h.mem p row hp x).mp hx
  have := (List.getElem?_eq_some_iff.mp ek).1
  omega
theorem Ord.row_len {rs : List (List Int)} {es : List (Int × Int)} (h : Ord rs es) {row : List Int} (hr : row ∈ rs) : row.length ≤ es.length :=
  pigeon es.length row (h.nd row hr) (h.row_in hr)
/-! ### flats: grown -/
theorem dec_intF (a b : Int) : decide (V.int a = V.int b) = decide (a = b) := by
  by_cases h : a = b
  · rw [decide_eq_true h, h, decide_eq_true rfl]
  · rw [decide_eq_false h, decide_eq_false (fun z => h (V.int.inj z))]
theorem Ord.start : Ord [[]] [] := ⟨fun e h => (by cases h), fun row h => by rw [List.mem_singleton.mp h]; exact List.nodup_nil, fun p row e x => by
  match p, e with
  | 0, e =>
    cases e
    exact ⟨fun h => (by cases h), fun ⟨k, e, _, h, _⟩ => by simp at h⟩
  | p + 1, e => simp at e⟩
theorem Ord.more {rs : List (List Int)} {es : List (Int × Int)} (h : Ord rs es) : Ord (rs ++ [[]]) es := by
  refine ⟨fun e he => ?_, fun row hr => ?_, fun p row e x => ?_⟩
  · have := h.ends e he
    rw [List.length_append]
    simp only [List.length_singleton]
    push_cast
    omega
  · rcases List.mem_append.mp hr with z | z
    · exact h.nd row z
    · rw [List.mem_singleton.mp z]; exact List.nodup_nil
  · by_cases hp : p < rs.length
    · rw [List.getElem?_append_left hp] at e
      exact h.mem p row e x
    · rw [List.getElem?_append_right (by omega)] at e
      have hp2 : p - rs.length = 0 := by
        have := (List.getElem?_eq_some_iff.mp e).1
        simp at this
        omega
      rw [hp2] at e
      cases e
      refine ⟨fun z => (by cases z), fun ⟨k, e, _, h2, h3⟩ => ?_⟩
      have := h.ends e (List.mem_of_getElem? h2)
      omega
theorem Ord.link {rs rs' : List (List Int)} {es : List (Int × Int)} {p q : Nat} (h : Ord rs es) (hl : rs'.length = rs.length) (hp : p < rs.length) (hq : q < rs.length) (pq : p ≠ q) (each : ∀ (i : Nat) (row' : List Int), rs'[i]? = some row' → ∃ row, rs[i]? = some row ∧ ((i = p ∨ i = q) → (∀ x : Int, x ∈ row' ↔ x ∈ row ∨ x = (es.length : Int)) ∧ row'.Nodup) ∧ (¬ (i = p ∨ i = q) → row' = row)) : Ord rs' (es ++ [((p : Int), (q : Int))]) := by
  refine ⟨fun e he => ?_, fun row hr => ?_, fun i row e x => ?_⟩
  · rw [hl]
    rcases List.mem_append.mp he with z | z
    · exact h.ends e z
    · rw [List.mem_singleton.mp z]
      simp only
      omega
  · obtain ⟨i, hi⟩ := List.getElem?_of_mem hr
    obtain ⟨row0, e0, e1, e2⟩ := each i row hi
    by_cases c : i = p ∨ i = q
    · exact (e1 c).2
    · rw [e2 c]; exact h.nd row0 (List.mem_of_getElem? e0)
  · obtain ⟨row0, e0, e1, e2⟩ := each i row e
    have m0 := h.mem i row0 e0 x
    by_cases c : i = p ∨ i = q
    · rw [(e1 c).1 x, m0]
      constructor
      · rintro (⟨k, e, rfl, ek, he⟩ | rfl)
        · exact ⟨k, e, rfl, by rw [List.getElem?_append_left (List.getElem?_eq_some_iff.mp ek).1]; exact ek, he⟩
        · exact ⟨es.length, ((p : Int), (q : Int)), rfl, by rw [List.getElem?_append_right (Nat.le_refl _), Nat.sub_self]; rfl, c.elim (fun z => .inl (by rw [z])) (fun z => .inr (by rw [z]))⟩
      · rintro ⟨k, e, rfl, ek, he⟩
        by_cases hk : k < es.length
        · rw [List.getElem?_append_left hk] at ek
          exact .inl ⟨k, e, rfl, ek, he⟩
        · have := (List.getElem?_eq_some_iff.mp ek).1
          rw [List.length_append, List.length_singleton] at this
          exact .inr (by omega)
    · rw [e2 c, m0]
      constructor
      · rintro ⟨k, e, rfl, ek, he⟩
        exact ⟨k, e, rfl, by rw [List.getElem?_append_left (List.getElem?_eq_some_iff.mp ek).1]; exact ek, he⟩
      · rintro ⟨k, e, rfl, ek, he⟩
        by_cases hk : k < es.length
        · rw [List.getElem?_append_left hk] at ek
          exact ⟨k, e, rfl, ek, he⟩
        · exfalso
          have hk2 := (List.getElem?_eq_some_iff.mp ek).1
          rw [List.length_append, List.length_singleton] at hk2
          rw [List.getElem?_append_right (by omega), show k - es.length = 0 by omega] at ek
          cases ek
          exact c (he.elim (fun z => .inl (Int.ofNat.inj z).symm) fun z => .inr (Int.ofNat.inj z).symm)
def insR (row : List Int) (i : Nat) (m : Int) : List Int := row.take i ++ [m] ++ row.drop i
theorem insR_map (row : List Int) (i : Nat) (m : Int) : (row.map V.int).take i ++ [V.int m] ++ (row.map V.int).drop i = (insR row i m).map V.int := by
  unfold insR
  rw [List.map_append, List.map_append, List.map_take, List.map_drop]
  rfl
theorem insR_mem {row : List Int} {i : Nat} {m x : Int} : x ∈ insR row i m ↔ x ∈ row ∨ x = m := by
  have e : x ∈ row ↔ x ∈ row.take i ∨ x ∈ row.drop i := by
    rw [← List.mem_append, List.take_append_drop]
  unfold insR
  rw [List.mem_append, List.mem_append, List.mem_singleton, e]
  constructor
  · rintro ((h | h) | h)
    · exact .inl (.inl h)
    · exact .inr h
    · exact .inl (.inr h)
  · rintro ((h | h) | h)
    · exact .inl (.inl h)
    · exact .inr h
    · exact .inl (.inr h)
theorem insR_nd {row : List Int} {i : Nat} {m : Int} (nd : row.Nodup) (h : m ∉ row) : (insR row i m).Nodup := by
  have p : (insR row i m).Perm (m :: row) := by
    unfold insR
    rw [List.append_assoc]
    refine (List.perm_middle (l₁ := row.take i) (l₂ := row.drop i) (a := m)).trans ?_
    rw [List.take_append_drop]
  exact p.nodup_iff.mpr (List.nodup_cons.mpr ⟨h, nd⟩)
/-- what is being grown: all of it new -/
structure Grw (H0 : Hp) (d T O : Addr) (H : Hp) (us : List V) (es : List (Int × Int)) (A : List Addr) (rs : List (List Int)) : Prop where
  hT : H T = some (.lst us)
  hu : Paired (PrV H) us es
  hO : H O = some (.lst (A.map V.ref))
  rw' : Rw H A rs
  TO : T ≠ O
  Td : T ≠ d
  Od : O ≠ d
  T0 : H0 T = none
  O0 : H0 O = none
  aA : ∀ a ∈ A, a ≠ T ∧ a ≠ O ∧ a ≠ d ∧ H0 a = none
  dk : FDk H d
  kp : Kp d d H0 H
section
variable {H0 H H' : Hp} {d T O : Addr} {us : List V} {es : List (Int × Int)} {A : List Addr} {rs : List (List Int)}
theorem Grw.same (g : Grw H0 d T O H us es A rs) (s : Same H H') : Grw H0 d T O H' us es A rs :=
  ⟨s _ _ g.hT, pr_tk (Same.tk s) g.hu, s _ _ g.hO, g.rw'.ext fun _ _ _ h => s _ _ h, g.TO, g.Td, g.Od, g.T0, g.O0, g.aA, g.dk.same s, g.kp.trans (Same.kp s)⟩
theorem Grw.take (g : Grw H0 d T O H us es A rs) (k : Kp d d H H') (D : FDk H' d) : Grw H0 d T O H' us es A rs :=
  ⟨k _ _ g.Td g.Td g.hT, pr_tk (g.dk.tk k) g.hu, k _ _ g.Od g.Od g.hO, g.rw'.ext fun a ha _ h => k _ _ (g.aA a ha).2.2.1 (g.aA a ha).2.2.1 h, g.TO, g.Td, g.Od, g.T0, g.O0, g.aA, D, g.kp.trans k⟩
theorem Grw.dk_ne (g : Grw H0 d T O H us es A rs) {a : Addr} (h : a ≠ d) {o : HO} : FDk (upd H a o) d := by
  obtain ⟨ns, h1, h2⟩ := g.dk
  exact ⟨ns, by rw [upd_ne (Ne.symm h)]; exact h1, h2⟩
theorem Grw.row (g : Grw H0 d T O H us es A rs) {p : Nat} {ra : Addr} (ea : A[p]? = some ra) {row : List Int} (hr : H ra = some (.lst (row.map V.int))) (row' : List Int) : Grw H0 d T O (upd H ra (.lst (row'.map V.int))) us es A (rs.set p row') := by
  have a := g.aA ra (List.mem_of_getElem? ea)
  exact ⟨by rw [upd_ne a.1.symm]; exact g.hT, pr_tk (tk_lst hr) g.hu, by rw [upd_ne a.2.1.symm]; exact g.hO, g.rw'.put ea row', g.TO, g.Td, g.Od, g.T0, g.O0, g.aA, g.dk_ne a.2.2.1, g.kp.mut a.2.2.2⟩
theorem Grw.tie (g : Grw H0 d T O H us es A rs) {c : Addr} {x y : Int} (hc : H c = some (.tup [.int x, .int y])) : Grw H0 d T O (upd H T (.lst (us ++ [.ref c]))) (us ++ [.ref c]) (es ++ [(x, y)]) A rs := by
  have tk := tk_lst (ys := us ++ [.ref c]) g.hT
  exact ⟨upd_same, Paired.snoc (pr_tk tk g.hu) ⟨c, rfl, tk _ _ hc⟩, by rw [upd_ne g.TO.symm]; exact g.hO, g.rw'.ext fun a ha _ h => by rw [upd_ne (g.aA a ha).1]; exact h, g.TO, g.Td, g.Od, g.T0, g.O0, g.aA, g.dk_ne g.Td, g.kp.mut g.T0⟩
theorem Grw.more (g : Grw H0 d T O H us es A rs) {p : Addr} (np : H p = none) (row : List Int) : Grw H0 d T O (upd (upd H p (.lst (row.map V.int))) O (.lst (A.map V.ref ++ [.ref p]))) us es (A ++ [p]) (rs ++ [row]) := by
  have sp := same_new (o := .lst (row.map V.int)) np
  have pT : p ≠ T := (ne_of_none g.hT np).symm
  have pO : p ≠ O := (ne_of_none g.hO np).symm
  have pd : p ≠ d := g.dk.ned np
  have g1 := g.same sp
  have tk := tk_lst (ys := A.map V.ref ++ [.ref p]) g1.hO
  refine ⟨by rw [upd_ne g.TO]; exact g1.hT, pr_tk tk g1.hu, by rw [upd_same, List.map_append]; rfl, (g.rw'.more np row).ext fun a ha _ h => ?_, g.TO, g.Td, g.Od, g.T0, g.O0, fun a ha => ?_, g1.dk_ne g.Od, g1.kp.mut g.O0⟩
  · rw [upd_ne]
    · exact h
    · rcases List.mem_append.mp ha with z | z
      · exact (g.aA a z).2.1
      · rw [List.mem_singleton.mp z]; exact pO
  · rcases List.mem_append.mp ha with z | z
    · exact g.aA a z
    · rw [List.mem_singleton.mp z]
      exact ⟨pT, pO, pd, g.kp.free np pd pd⟩
theorem Grw.at' (g : Grw H0 d T O H us es A rs) {p : Int} (h0 : 0 ≤ p) (h1 : p < (rs.length : Int)) : ∃ (ra : Addr) (row : List Int), A[p.toNat]? = some ra ∧ atI (A.map V.ref) p = some (.ref ra) ∧ rs[p.toNat]? = some row ∧ H ra = some (.lst (row.map V.int)) := by
  have lA := g.rw'.len
  have hl : p.toNat < A.length := by omega
  have e := List.getElem?_eq_getElem hl
  obtain ⟨row, e1, e2⟩ := g.rw'.each _ _ e
  refine ⟨_, row, e, ?_, e1, e2⟩
  have := atI_nat (xs := A.map V.ref) (j := p.toNat) (v := .ref A[p.toNat]) (by rw [List.getElem?_map, e]; rfl)
  rw [show ((p.toNat : Nat) : Int) = p by omega] at this
  exact this
end
/-! ### flats: turned, web, crossed -/
/-! ### the law: other webs -/
theorem cut_take {xs : List V} {k : Nat} (h : k ≤ xs.length) : cutV xs none (some (k : Int)) = xs.take k := by
  unfold cutV
  rw [HT.sIx_none, HT.sIx_nat, Nat.min_eq_left h, List.drop_zero]
  rfl
theorem cut_drop {xs : List V} {k : Nat} (h : k ≤ xs.length) : cutV xs (some (k : Int)) none = xs.drop k := by
  unfold cutV
  rw [HT.sIx_none, HT.sIx_nat, Nat.min_eq_left h]
  exact List.take_of_length_le (by rw [List.length_drop]; omega)
theorem pickK (v : Int) (h0 : 0 ≤ v) (h1 : v < 2) : ∃ fo : Bool, atI [V.str "friend", V.str "foe"] v = some (.str (kindS fo)) := by
  have h01 : v = 0 ∨ v = 1 := by omega
  rcases h01 with e | e <;> subst e
  · exact ⟨false, rfl⟩
  · exact ⟨true, rfl⟩
theorem Ord.perm {rs rs' : List (List Int)} {es : List (Int × Int)} (h : Ord rs es) (hl : rs'.length = rs.length) (each : ∀ (i : Nat) (row' : List Int), rs'[i]? = some row' → ∃ row, rs[i]? = some row ∧ row'.Perm row) : Ord rs' es := by
  refine ⟨fun e he => by rw [hl]; exact h.ends e he, fun row hr => ?_, fun i row e x => ?_⟩
  · obtain ⟨i, hi⟩ := List.getElem?_of_mem hr
    obtain ⟨row0, e0, p⟩ := each i row hi
    exact p.nodup_iff.mpr (h.nd row0 (List.mem_of_getElem? e0))
  · obtain ⟨row0, e0, p⟩ := each i row e
    rw [p.mem_iff]
    exact h.mem i row0 e0 x
def rLenKF (K : PySem.W.Frag) : List V → Hp → VK → Prop := fun xs H Q => ∃ p ys, xs = [V.ref p] ∧ (SqL K H p ys ∨ SqT K H p ys) ∧ Q (V.int (ys.length : Nat)) H
def rotP (row : List Int) (k : Nat) : List Int := row.drop k ++ row.take k
theorem rotP_perm (row : List Int) (k : Nat) : (rotP row k).Perm row := by
  unfold rotP
  refine List.perm_append_comm.trans ?_
  rw [List.take_append_drop]
/-- the ties of a web over so drawn pairs, each one way or the other -/
def TwE (ts : List Tie) (es : List (Int × Int)) : Prop := ts.length = es.length ∧ ∀ (k : Nat) (t : Tie) (e : Int × Int), ts[k]? = some t → es[k]? = some e → (t.one = e.1 ∧ t.other = e.2) ∨ (t.one = e.2 ∧ t.other = e.1)
theorem TwE.snoc {ts : List Tie} {es : List (Int × Int)} (h : TwE ts es) {t : Tie} {e : Int × Int} (j : (t.one = e.1 ∧ t.other = e.2) ∨ (t.one = e.2 ∧ t.other = e.1)) : TwE (ts ++ [t]) (es ++ [e]) := by
  refine ⟨by simp [h.1], fun k t' e' h1 h2 => ?_⟩
  by_cases hk : k < ts.length
  · rw [List.getElem?_append_left hk] at h1
    rw [List.getElem?_append_left (by rw [← h.1]; exact hk)] at h2
    exact h.2 k t' e' h1 h2
  · have hk2 := (List.getElem?_eq_some_iff.mp h1).1
    rw [List.length_append, List.length_singleton] at hk2
    rw [List.getElem?_append_right (by omega), show k - ts.length = 0 by omega] at h1
    rw [List.getElem?_append_right (by rw [← h.1]; omega), show k - es.length = 0 by rw [← h.1]; omega] at h2
    cases h1
    cases h2
    exact j
theorem Grw.oth {H0 H : Hp} {d T O L : Addr} {us xs ys : List V} {es : List (Int × Int)} {A : List Addr} {rs : List (List Int)} (g : Grw H0 d T O H us es A rs) (LA : ∀ a ∈ A, a ≠ L) (LT : T ≠ L) (LO : O ≠ L) (Ld : L ≠ d) (L0 : H0 L = none) (h : H L = some (.lst xs)) : Grw H0 d T O (upd H L (.lst ys)) us es A rs :=
  ⟨by rw [upd_ne LT]; exact g.hT, pr_tk (tk_lst h) g.hu, by rw [upd_ne LO]; exact g.hO, g.rw'.ext fun a ha _ h => by rw [upd_ne (LA a ha)]; exact h, g.TO, g.Td, g.Od, g.T0, g.O0, g.aA, g.dk_ne Ld, g.kp.mut L0⟩
structure Rot (rs rs' : List (List Int)) : Prop where
  len : rs'.length = rs.length
  each : ∀ (i : Nat) (row row' : List Int), rs[i]? = some row → rs'[i]? = some row' → ∃ k, k ≤ row.length ∧ row' = rotP row k
def spTurned : Sp := fun vs H Q _ => ∃ (H0 : Hp) (d T O : Addr) (us : List V) (es : List (Int × Int)) (A : List Addr) (rs : List (List Int)), vs = [.ref d, .ref O] ∧ Grw H0 d T O H us es A rs ∧ Ord rs es ∧ rs.length ≤ 100 ∧ es.length ≤ 200 ∧
  ∀ r vs' rs' H', H' r = some (.tup vs') → Paired (IntsV H') vs' rs' → Ord rs' es → rs'.length = rs.length → Rot rs rs' → Grw H0 d T O H' us es A rs → Kp d d H H' → Q (.ref r) H'
def spWebF : Sp := fun vs H Q _ => ∃ (H0 : Hp) (d T O : Addr) (us : List V) (es : List (Int × Int)) (A : List Addr) (rs : List (List Int)) (n : Int), vs = [.ref d, .ref T, .int n] ∧ Grw H0 d T O H us es A rs ∧ es.length ≤ 200 ∧
  ∀ v ts H', WebAt H' v n ts → TwE ts es → Grw H0 d T O H' us es A rs → Kp d d H H' → Q v H'
def spCrossed : Sp := fun vs H Q _ => ∃ (H0 : Hp) (d T O : Addr) (us : List V) (es : List (Int × Int)) (A : List Addr) (rs : List (List Int)), vs = [.ref d, .ref O] ∧ Grw H0 d T O H us es A rs ∧ Ord rs es ∧ rs.length ≤ 100 ∧ es.length ≤ 200 ∧
  ∀ rs' H', Ord rs' es → rs'.length = rs.length → Grw H0 d T O H' us es A rs' → Tk H H' → Q .non H'
section
variable {P : Program} {w : World} {K : PySem.W.Frag} {mg : Str → Option Value} {base : Heap}
set_option maxHeartbeats 2000000 in
theorem ok_l_turned {f : Addr} {fd : FuncData} (F : Fun K "_law_turned" "_law_turned" s_l_turned f fd) (M : Free mg) (D_l_take : Df P w K mg base 2 "_law_take" ["_law_deck_here", "_law_most"] spTake) : FnOk P w K mg base CX0 3 f fd ["_law_deck_here", "_law_orders"] spTurned := by
  obtain ⟨f_l_take, fd_l_take, G_l_take, g_l_take, k_l_take, b_l_take⟩ := D_l_take
  refine F.ok sc_l_turned (fun vs H Q E h => ?_) (fun cdv A outer s H vs Q E hr h => ?_)
  · obtain ⟨H0, d, T, O, us, es, A, rs, rfl, _⟩ := h
    rfl
  · obtain ⟨H0, d, T, O, us, es, A, rs, rfl, g, od, lr, le, q⟩ := h
    refine ⟨_, (pss_cons (ps_set (i := 2) sc_l_turned.nd rfl (.inl rfl) (pe_lst pa_nil))
      (pss_cons (ps_for PassesOwn.never rfl (pi_list (pv 1)) (pg_name (i := 3) sc_l_turned.nd rfl (.inl rfl))
        (pss_cons (ps_set (i := 4) sc_l_turned.nd rfl (.inl rfl) (pe_call G_l_take (hr.mono (by decide)) (by rfl) g_l_take k_l_take b_l_take .nil pass0 (pa_cons (pv 0) (pa_cons (pe_op op_add (pe_callB call_len_seq (by rfl) M.len PySem.boot_len (pa_cons (pv 3) pa_nil)) pe_int) pa_nil))))
        (pss_one (ps_expr (pe_bm PySem.F.plainAttrs_list PySem.F.slot_list_append PySem.F.type_list_append mt_append (pv 2) (pa_cons (pe_callTy call_tuple_of (by rfl) M.tuple (by decide +kernel) (pa_cons (pe_op op_cat (pe_slice sl_list (pv 3) (po_some (pv 4)) po_none) (pe_slice sl_list (pv 3) po_none (po_some (pv 4)))) pa_nil)) pa_nil))))))
      (pss_one (ps_ret (pe_callTy call_tuple_of (by rfl) M.tuple (by decide +kernel) (pa_cons (pv 2) pa_nil)))))), ?_⟩
    have lA := g.rw'.len
    refine ⟨Nat.zero_le _, fun L nL => ?_⟩
    have sL := same_new (o := .lst []) nL
    have hL1 : (upd H L (.lst [])) L = some (.lst []) := upd_same
    have g1 := g.same sL
    have Ld : L ≠ d := g.dk.ned nL
    have K1 : Kp d d H (upd H L (.lst [])) := Same.kp sL
    generalize upd H L (.lst []) = H1 at sL hL1 g1 K1
    refine ⟨.ref O, rfl, O, rfl, ⟨_, SqL.of g1.hO⟩, ?_⟩
    refine for_list (xs := A.map V.ref) (fun i σ' H' => ∃ (y3 y4 : Option V) (vs : List V) (rs' : List (List Int)), σ' = [some (.ref d), some (.ref O), some (.ref L), y3, y4] ∧ H' L = some (.lst vs) ∧ Paired (IntsV H') vs rs' ∧ rs'.length = i ∧ (∀ (j : Nat) (row' : List Int), rs'[j]? = some row' → ∃ row k, rs[j]? = some row ∧ k ≤ row.length ∧ row' = rotP row k) ∧ Grw H0 d T O H' us es A rs ∧ Kp d d H H') ⟨none, none, [], [], rfl, hL1, .nil, rfl, fun j row' e => by simp at e, g1, K1⟩ (fun i σ' H' _ h => by
      obtain ⟨_, _, _, _, _, _, _, _, _, g, _⟩ := h
      exact SqL.of g.hO) ?_ ?_
    · rintro i x σ' H2 ex ⟨y3, y4, vs, rs', rfl, hL, hv, li, each, g2, K2⟩
      have lv := Paired.length hv
      rw [List.getElem?_map] at ex
      obtain ⟨ra, ea, rfl⟩ := Option.map_eq_some_iff.mp ex
      obtain ⟨row, er, hra⟩ := g2.rw'.each _ _ ea
      have hlt := (List.getElem?_eq_some_iff.mp er).1
      have lrow := od.row_len (List.mem_of_getElem? er)
      have had := g2.aA ra (List.mem_of_getElem? ea)
      refine ⟨.ref d, rfl, .ref ra, rfl, ra, _, rfl, .inl (SqL.of hra), _, _, rfl, rfl, d, _, rfl, g2.dk, by omega, by rw [List.length_map]; omega, fun at' H3 a0 a1 D3 K3 => ?_⟩
      rw [List.length_map] at a1
      have g3 := g2.take K3 D3
      have hra3 := K3 _ _ had.2.2.1 had.2.2.1 hra
      have hL3 := K3 _ _ Ld Ld hL
      have hv3 : Paired (IntsV H3) vs rs' := Paired.mono (fun _ _ x => x.tk (g2.dk.tk K3)) hv
      obtain ⟨k, rfl⟩ : ∃ k : Nat, at' = (k : Int) := ⟨at'.toNat, by omega⟩
      have kl : k ≤ (row.map V.int).length := by rw [List.length_map]; omega
      obtain ⟨c1, hc1⟩ : ∃ c1, c1 = cutV (row.map V.int) (some (k : Int)) none := ⟨_, rfl⟩
      obtain ⟨c2, hc2⟩ : ∃ c2, c2 = cutV (row.map V.int) none (some (k : Int)) := ⟨_, rfl⟩
      have ec : c1 ++ c2 = (rotP row k).map V.int := by
        rw [hc1, hc2, cut_drop kl, cut_take kl]
        unfold rotP
        rw [List.map_append, List.map_drop, List.map_take]
      have lc : c1.length + c2.length ≤ 800 := by
        have h1 := cutV_length (row.map V.int) (some (k : Int)) none
        have h2 := cutV_length (row.map V.int) none (some (k : Int))
        rw [List.length_map] at h1 h2
        rw [hc1, hc2]
        omega
      refine ⟨.ref L, rfl, .inl ⟨rfl, _, SqL.of hL3⟩, .ref ra, rfl, .int k, rfl, k, rfl, ra, _, rfl, SqL.of hra3, fun p1 n1 => ?_⟩
      rw [← hc1]
      have s4 := same_new (o := .lst c1) n1
      refine ⟨.ref ra, rfl, .int k, rfl, k, rfl, ra, _, rfl, SqL.of (s4 _ _ hra3), fun p2 n2 => ?_⟩
      rw [← hc2]
      have s5 := same_new (o := .lst c2) n2
      refine ⟨p1, p2, _, _, rfl, rfl, s5 _ _ upd_same, upd_same, Nat.le_of_lt (small1000 (by omega)), fun p3 n3 => ?_⟩
      · have s6 := same_new (o := .lst (c1 ++ c2)) n3
        refine ⟨p3, _, rfl, .inl ⟨SqL.of upd_same, fun p4 n4 => ?_⟩⟩
        have s7 := same_new (o := .tup (c1 ++ c2)) n4
        have sA := ((s4.trans s5).trans s6).trans s7
        have h4 : (upd (upd (upd (upd H3 p1 (.lst c1)) p2 (.lst c2)) p3 (.lst (c1 ++ c2))) p4 (.tup (c1 ++ c2))) p4 = some (.tup ((rotP row k).map V.int)) := by rw [upd_same, ec]
        generalize upd (upd (upd (upd H3 p1 (.lst c1)) p2 (.lst c2)) p3 (.lst (c1 ++ c2))) p4 (.tup (c1 ++ c2)) = H7 at sA h4
        have hL7 := sA _ _ hL3
        have tk := tk_lst (ys := vs ++ [.ref p4]) hL7
        have g7 := g3.same sA
        have nL0 := g.kp.free nL Ld Ld
        refine ⟨L, vs, _, rfl, rfl, hL7, small1000 (by omega), ?_⟩
        have LA : ∀ a ∈ A, a ≠ L := fun a ha z => by
          obtain ⟨j, ej⟩ := List.getElem?_of_mem ha
          obtain ⟨_, _, e2⟩ := g.rw'.each _ _ ej
          rw [z, nL] at e2
          cases e2
        have LT : T ≠ L := ne_of_none g.hT nL
        have LO : O ≠ L := ne_of_none g.hO nL
        refine ⟨_, _, vs ++ [.ref p4], rs' ++ [rotP row k], rfl, upd_same, Paired.snoc (Paired.mono (fun _ _ x => x.tk ((Same.tk sA).trans tk)) hv3) ⟨p4, rfl, tk _ _ h4⟩, by simp [li], fun j row' e => ?_, ⟨by rw [upd_ne LT]; exact g7.hT, pr_tk tk g7.hu, by rw [upd_ne LO]; exact g7.hO, g7.rw'.ext fun a ha _ h => by rw [upd_ne (LA a ha)]; exact h, g.TO, g.Td, g.Od, g.T0, g.O0, g.aA, g7.dk_ne Ld, g7.kp.mut nL0⟩, (((K2.trans K3).trans (Same.kp sA)).mut nL)⟩
        by_cases hj : j < rs'.length
        · rw [List.getElem?_append_left hj] at e
          exact each j row' e
        · have hj2 := (List.getElem?_eq_some_iff.mp e).1
          rw [List.length_append, List.length_singleton] at hj2
          rw [List.getElem?_append_right (by omega), show j - rs'.length = 0 by omega] at e
          cases e
          rw [show j = i by omega]
          exact ⟨row, k, er, by rw [List.length_map] at kl; exact kl, rfl⟩
    · rintro σ' H2 ⟨y3, y4, vs, rs', rfl, hL, hv, li, each, g2, K2⟩
      rw [List.length_map, lA] at li
      refine ⟨.ref L, rfl, L, _, rfl, .inl ⟨SqL.of hL, fun a na => ?_⟩⟩
      have sa := same_new (o := .tup vs) na
      exact q a vs rs' _ upd_same (Paired.mono (fun _ _ x => x.tk (Same.tk sa)) hv) (od.perm li fun j row' e => by
        obtain ⟨row, k, e1, _, e2⟩ := each j row' e
        exact ⟨row, e1, e2 ▸ rotP_perm row k⟩) li ⟨li, fun i row row' e1 e2 => by
        obtain ⟨row0, k, f1, f2, f3⟩ := each i row' e2
        rw [e1] at f1
        cases f1
        exact ⟨k, f2, f3⟩⟩ (g2.same sa) (K2.trans (Same.kp sa))
set_option maxHeartbeats 2000000 in
theorem ok_l_web {f : Addr} {fd : FuncData} (F : Fun K "_law_web" "_law_web" s_l_web f fd) (M : Free mg) (D_l_take : Df P w K mg base 2 "_law_take" ["_law_deck_here", "_law_most"] spTake) : FnOk P w K mg base CX0 3 f fd ["_law_deck_here", "_law_ties", "_law_places"] spWebF := by
  obtain ⟨f_l_take, fd_l_take, G_l_take, g_l_take, k_l_take, b_l_take⟩ := D_l_take
  refine F.ok sc_l_web (fun vs H Q E h => ?_) (fun cdv A outer s H vs Q E hr h => ?_)
  · obtain ⟨H0, d, T, O, us, es, A, rs, n, rfl, _⟩ := h
    rfl
  · obtain ⟨H0, d, T, O, us, es, A, rs, n, rfl, g, le, q⟩ := h
    refine ⟨_, (pss_cons (ps_set (i := 3) sc_l_web.nd rfl (.inl rfl) (pe_lst pa_nil))
      (pss_cons (ps_for PassesOwn.never rfl (pi_list (pv 1)) (pg_tup rfl (pgs_cons (pg_name (i := 4) sc_l_web.nd rfl (.inl rfl)) (pgs_cons (pg_name (i := 5) sc_l_web.nd rfl (.inl rfl)) pgs_nil)))
        (pss_cons (ps_set (i := 6) sc_l_web.nd rfl (.inl rfl) (pe_ix ix_list (pe_lst (pa_cons pe_str (pa_cons pe_str pa_nil))) (pe_call G_l_take (hr.mono (by decide)) (by rfl) g_l_take k_l_take b_l_take .nil pass0 (pa_cons (pv 0) (pa_cons pe_int pa_nil))) (fun _ _ => rfl)))
        (pss_one (ps_expr (pe_bm PySem.F.plainAttrs_list PySem.F.slot_list_append PySem.F.type_list_append mt_append (pv 3) (pa_cons (pe_ix ix_list (pe_lst (pa_cons (pe_tup (pa_cons (pv 4) (pa_cons (pv 5) (pa_cons (pv 6) pa_nil)))) (pa_cons (pe_tup (pa_cons (pv 5) (pa_cons (pv 4) (pa_cons (pv 6) pa_nil)))) pa_nil))) (pe_call G_l_take (hr.mono (by decide)) (by rfl) g_l_take k_l_take b_l_take .nil pass0 (pa_cons (pv 0) (pa_cons pe_int pa_nil))) (fun _ _ => rfl)) pa_nil))))))
      (pss_one (ps_ret (pe_tup (pa_cons (pv 2) (pa_cons (pe_callTy call_tuple_of (by rfl) M.tuple (by decide +kernel) (pa_cons (pv 3) pa_nil)) pa_nil))))))), ?_⟩
    have lu : us.length = es.length := Paired.length g.hu
    refine ⟨Nat.zero_le _, fun L nL => ?_⟩
    have sL := same_new (o := .lst []) nL
    have hL1 : (upd H L (.lst [])) L = some (.lst []) := upd_same
    have g1 := g.same sL
    have Ld : L ≠ d := g.dk.ned nL
    have K1 : Kp d d H (upd H L (.lst [])) := Same.kp sL
    have nL0 := g.kp.free nL Ld Ld
    have LA : ∀ a ∈ A, a ≠ L := fun a ha z => by
      obtain ⟨j, ej⟩ := List.getElem?_of_mem ha
      obtain ⟨_, _, e2⟩ := g.rw'.each _ _ ej
      rw [z, nL] at e2
      cases e2
    have LT : T ≠ L := ne_of_none g.hT nL
    have LO : O ≠ L := ne_of_none g.hO nL
    generalize upd H L (.lst []) = H1 at sL hL1 g1 K1
    refine ⟨.ref T, rfl, T, rfl, ⟨_, SqL.of g1.hT⟩, ?_⟩
    refine for_list (xs := us) (fun i σ' H' => ∃ (y4 y5 y6 : Option V) (vs : List V) (ts : List Tie), σ' = [some (.ref d), some (.ref T), some (.int n), some (.ref L), y4, y5, y6] ∧ H' L = some (.lst vs) ∧ Paired (TieV H') vs ts ∧ TwE ts (es.take i) ∧ Grw H0 d T O H' us es A rs ∧ Kp d d H H') ⟨none, none, none, [], [], rfl, hL1, .nil, ⟨rfl, fun k t e h => by simp at h⟩, g1, K1⟩ (fun i σ' H' _ h => by
      obtain ⟨_, _, _, _, _, _, _, _, _, g, _⟩ := h
      exact SqL.of g.hT) ?_ ?_
    · rintro i x σ' H2 ex ⟨y4, y5, y6, vs, ts, rfl, hL, hv, tw, g2, K2⟩
      have lv := Paired.length hv
      obtain ⟨e, ee, c, rfl, hc⟩ := Paired.at g2.hu ex
      have il := (List.getElem?_eq_some_iff.mp ee).1
      have lts := tw.1
      rw [List.length_take] at lts
      refine ⟨c, _, rfl, SqT.of hc, rfl, _, _, rfl, _, _, rfl, rfl, ?_⟩
      refine ⟨by show 2 ≤ sizeLine; decide, fun p np => ?_⟩
      have sp := same_new (o := .lst [.str "friend", .str "foe"]) np
      have g3 := g2.same sp
      have pd := g2.dk.ned np
      refine ⟨.ref d, rfl, d, 2, rfl, g3.dk, by decide, by decide, fun v H3 v0 v1 D3 K3 => ?_⟩
      obtain ⟨fo, ef⟩ := pickK v v0 v1
      refine ⟨p, _, v, _, rfl, rfl, SqL.of (K3 _ _ pd pd upd_same), ef, ?_⟩
      have g4 := g3.take K3 D3
      have hL3 := K3 _ _ Ld Ld (sp _ _ hL)
      have hv3 := ties_tk (g3.dk.tk K3) (ties_tk (Same.tk sp) hv)
      have K23 := (K2.trans (Same.kp sp)).trans K3
      clear g3 sp K3 D3 hv hL g2 np hc
      refine ⟨.ref L, rfl, .inl ⟨rfl, _, SqL.of hL3⟩, .int e.1, rfl, .int e.2, rfl, .str (kindS fo), rfl, by show 3 ≤ sizeLine; decide, fun c1 n1 => ?_⟩
      have s5 := same_new (o := .tup [.int e.1, .int e.2, .str (kindS fo)]) n1
      refine ⟨.int e.2, rfl, .int e.1, rfl, .str (kindS fo), rfl, by show 3 ≤ sizeLine; decide, fun c2 n2 => ?_⟩
      have s6 := same_new (o := .tup [.int e.2, .int e.1, .str (kindS fo)]) n2
      refine ⟨by show 2 ≤ sizeLine; decide, fun p2 np2 => ?_⟩
      have s7 := same_new (o := .lst [.ref c1, .ref c2]) np2
      have h1 := s7 _ _ (s6 _ _ (upd_same (H := H3) (a := c1) (o := .tup [.int e.1, .int e.2, .str (kindS fo)])))
      have h2 := s7 _ _ (upd_same (H := upd H3 c1 (.tup [.int e.1, .int e.2, .str (kindS fo)])) (a := c2) (o := .tup [.int e.2, .int e.1, .str (kindS fo)]))
      have hp2 := upd_same (H := upd (upd H3 c1 (.tup [.int e.1, .int e.2, .str (kindS fo)])) c2 (.tup [.int e.2, .int e.1, .str (kindS fo)])) (a := p2) (o := .lst [.ref c1, .ref c2])
      have s57 := (s5.trans s6).trans s7
      have p2d : p2 ≠ d := ((g4.dk.same s5).same s6).ned np2
      have g5 := g4.same s57
      generalize upd (upd (upd H3 c1 (.tup [.int e.1, .int e.2, .str (kindS fo)])) c2 (.tup [.int e.2, .int e.1, .str (kindS fo)])) p2 (.lst [.ref c1, .ref c2]) = H4 at h1 h2 hp2 s57 g5
      refine ⟨.ref d, rfl, d, 2, rfl, g5.dk, by decide, by decide, fun w H5 w0 w1 D5 K5 => ?_⟩
      have g6 := g5.take K5 D5
      have tk5 := g5.dk.tk K5
      have hL5 := K5 _ _ Ld Ld (s57 _ _ hL3)
      have hv5 := ties_tk tk5 (ties_tk (Same.tk s57) hv3)
      have h1 := tk5 _ _ h1
      have h2 := tk5 _ _ h2
      obtain ⟨cc, t, ec, hcc, jt⟩ : ∃ (cc : Addr) (t : Tie), atI [V.ref c1, V.ref c2] w = some (.ref cc) ∧ H5 cc = some (.tup [.int t.one, .int t.other, .str (kindS t.foe)]) ∧ ((t.one = e.1 ∧ t.other = e.2) ∨ (t.one = e.2 ∧ t.other = e.1)) := by
        have h01 : w = 0 ∨ w = 1 := by omega
        rcases h01 with z | z <;> subst z
        · exact ⟨c1, ⟨e.1, e.2, fo⟩, rfl, h1, .inl ⟨rfl, rfl⟩⟩
        · exact ⟨c2, ⟨e.2, e.1, fo⟩, rfl, h2, .inr ⟨rfl, rfl⟩⟩
      refine ⟨p2, _, w, .ref cc, rfl, rfl, SqL.of (K5 _ _ p2d p2d hp2), ec, L, vs, _, rfl, rfl, hL5, small1000 (by omega), ?_⟩
      have tk := tk_lst (ys := vs ++ [.ref cc]) hL5
      refine ⟨_, _, _, vs ++ [.ref cc], ts ++ [t], rfl, upd_same, Paired.snoc (ties_tk tk hv5) ⟨cc, rfl, tk _ _ hcc⟩, ?_, g6.oth LA LT LO Ld nL0 hL5, ((K23.trans (Same.kp s57)).trans K5).mut nL⟩
      rw [List.take_add_one, ee]
      exact tw.snoc jt
    · rintro σ' H2 ⟨y4, y5, y6, vs, ts, rfl, hL, hv, tw, g2, K2⟩
      rw [lu, List.take_length] at tw
      refine ⟨.int n, rfl, .ref L, rfl, L, vs, rfl, .inl ⟨SqL.of hL, fun e ne => ⟨by show 2 ≤ sizeLine; decide, fun a na => ?_⟩⟩⟩
      have s2 := (same_new (o := .tup vs) ne).trans (same_new (o := .tup [.int n, .ref e]) na)
      exact q _ ts _ ⟨a, e, vs, rfl, upd_same, same_new na _ _ upd_same, ties_tk (Same.tk s2) hv⟩ tw (g2.same s2) (K2.trans (Same.kp s2))
set_option maxHeartbeats 2000000 in
theorem ok_l_crossed {f : Addr} {fd : FuncData} (F : Fun K "_law_crossed" "_law_crossed" s_l_crossed f fd) (M : Free mg) (D_l_take : Df P w K mg base 2 "_law_take" ["_law_deck_here", "_law_most"] spTake) : FnOk P w K mg base CX0 3 f fd ["_law_deck_here", "_law_orders"] spCrossed := by
  obtain ⟨f_l_take, fd_l_take, G_l_take, g_l_take, k_l_take, b_l_take⟩ := D_l_take
  refine F.ok sc_l_crossed (fun vs H Q E h => ?_) (fun cdv A outer s H vs Q E hr h => ?_)
  · obtain ⟨H0, d, T, O, us, es, A, rs, rfl, _⟩ := h
    rfl
  · obtain ⟨H0, d, T, O, us, es, A, rs, rfl, g, od, lr, le, q⟩ := h
    refine ⟨_, (pss_cons (ps_setLc (i := 2) (own := [("_law_place", 3)]) (g := (gName 3)) (te := tVar 3) rfl sc_l_crossed.nd rfl rfl (sw_true rfl rfl rfl (by decide +kernel)) (pi_range1 (by rfl) M.range (pa_cons (pe_callB call_len_seq (by rfl) M.len PySem.boot_len (pa_cons (pv 1) pa_nil)) pa_nil)) (blkOk_by (N := N_l_crossed) (sc := defScope s_l_crossed) (own := [("_law_place", 3)]) (by decide +kernel)) (fun _ _ _ _ _ => (pg_name (i := 3) sc_l_crossed.nd rfl (.inl rfl))) (fun _ _ _ _ _ => (pts_one (pt_cmpR op_gt (pe_callB (r := rLenKF K) call_len_seq (by rfl) M.len PySem.boot_len (pa_cons (pe_ix (r := rIxL K) ix_list (pv 1) (pv 3) (fun _ _ => rfl)) pa_nil)) pe_int (nomark _)))) (fun _ _ _ _ _ => (pv 3)))
      (pss_one (ps_if (pt_cmpR (op_neE hr.units0) (pv 2) (pe_lst pa_nil) (nomark _))
        (pss_cons (ps_set (i := 3) sc_l_crossed.nd rfl (.inl rfl) (pe_ix ix_list (pv 2) (pe_call G_l_take (hr.mono (by decide)) (by rfl) g_l_take k_l_take b_l_take .nil pass0 (pa_cons (pv 0) (pa_cons (pe_callB call_len_seq (by rfl) M.len PySem.boot_len (pa_cons (pv 2) pa_nil)) pa_nil))) (fun _ _ => rfl)))
        (pss_cons (ps_set (i := 4) sc_l_crossed.nd rfl (.inl rfl) (pe_call G_l_take (hr.mono (by decide)) (by rfl) g_l_take k_l_take b_l_take .nil pass0 (pa_cons (pv 0) (pa_cons (pe_callB call_len_seq (by rfl) M.len PySem.boot_len (pa_cons (pe_ix ix_list (pv 1) (pv 3) (fun _ _ => rfl)) pa_nil)) pa_nil))))
        (pss_cons (ps_set (i := 5) sc_l_crossed.nd rfl (.inl rfl) (pe_call G_l_take (hr.mono (by decide)) (by rfl) g_l_take k_l_take b_l_take .nil pass0 (pa_cons (pv 0) (pa_cons (pe_callB call_len_seq (by rfl) M.len PySem.boot_len (pa_cons (pe_ix ix_list (pv 1) (pv 3) (fun _ _ => rfl)) pa_nil)) pa_nil))))
        (pss_cons (ps_set (i := 6) sc_l_crossed.nd rfl (.inl rfl) (pe_ix ix_list (pv 1) (pv 3) (fun _ _ => rfl)))
        (pss_one (ps_asg (pe_tup (pa_cons (pe_ix ix_list (pv 6) (pv 5) (fun _ _ => rfl)) (pa_cons (pe_ix ix_list (pv 6) (pv 4) (fun _ _ => rfl)) pa_nil))) (pg_tup rfl (pgs_cons (pg_sub (pv 6) (pv 4) set_list) (pgs_cons (pg_sub (pv 6) (pv 5) set_list) pgs_nil)))))))))
        pss_nil))), ?_⟩
    have lA := g.rw'.len
    have lAm : (A.map V.ref).length = rs.length := by rw [List.length_map, lA]
    refine ⟨.ref O, rfl, O, _, rfl, .inl (SqL.of g.hO), _, rfl, by omega, by omega, fun Z nZ => ?_⟩
    have Zd : Z ≠ d := g.dk.ned nZ
    refine lc_range (lo := 0) (n := (((A.map V.ref).length : Nat) : Int).toNat) (fun j H' => ∃ ps : List Int, H' Z = some (.lst (ps.map V.int)) ∧ (∀ p ∈ ps, (0 ≤ p ∧ p < (rs.length : Int)) ∧ ∃ row, rs[p.toNat]? = some row ∧ 2 < row.length) ∧ ps.length ≤ j ∧ Same H H') ⟨[], upd_same, fun p hp => (by cases hp), Nat.le_refl _, same_new nZ⟩ ?_ ?_
    · rintro j H1 hj ⟨ps, hZ, hps, lp, s1⟩
      have g1 := g.same s1
      obtain ⟨ra, row, ea, e1, er, hra⟩ := g1.at' (p := 0 + (j : Nat)) (by omega) (by omega)
      refine ⟨rfl, .ref O, rfl, .int (0 + (j : Nat)), rfl, O, _, 0 + (j : Nat), .ref ra, rfl, rfl, SqL.of g1.hO, e1, ra, _, rfl, .inl (SqL.of hra), _, _, rfl, rfl, _, rfl, ?_⟩
      by_cases h : (((row.map V.int).length : Nat) : Int) > 2
      · rw [decide_eq_true h]
        refine ⟨.int (0 + (j : Nat)), rfl, _, hZ, small1000 (by rw [List.length_map]; omega), ps ++ [(0 : Int) + (j : Nat)], by rw [upd_same, List.map_append]; rfl, fun p hp => ?_, by rw [List.length_append]; show _ + 1 ≤ _; omega, Same.mut s1 nZ⟩
        rcases List.mem_append.mp hp with z | z
        · exact hps p z
        · rw [List.mem_singleton.mp z]
          rw [List.length_map] at h
          exact ⟨by omega, row, er, by omega⟩
      · rw [decide_eq_false h]
        exact ⟨ps, hZ, hps, by omega, s1⟩
    · rintro H1 ⟨ps, hZ, hps, lp, s1⟩
      have g1 := g.same s1
      refine ⟨.ref Z, rfl, Nat.zero_le _, fun E nE => ⟨Z, E, _, rfl, rfl, SqL.of (same_new nE _ _ hZ), SqL.of upd_same, _, rfl, ?_⟩⟩
      have sE := same_new (o := .lst []) nE
      have gE := g1.same sE
      have hZE := sE _ _ hZ
      generalize upd H1 E (.lst []) = H2 at gE hZE sE
      by_cases en : ps = []
      · rw [en]
        exact q rs _ od rfl gE (Same.tk (s1.trans sE))
      · rw [show (!(ps.map V.int).isEmpty) = true from by cases ps; exact absurd rfl en; rfl]
        have lpos := List.length_pos_iff.mpr en
        refine ⟨.ref Z, rfl, .ref d, rfl, .ref Z, rfl, Z, _, rfl, .inl (SqL.of hZE), d, _, rfl, gE.dk, by rw [List.length_map]; omega, by rw [List.length_map]; omega, fun v H3 v0 v1 D3 K3 => ?_⟩
        obtain ⟨u, e2, e3⟩ := getI v0 v1
        rw [List.getElem?_map] at e3
        obtain ⟨pl, ep, rfl⟩ := Option.map_eq_some_iff.mp e3
        obtain ⟨⟨p0, p1⟩, row, er, r2⟩ := hps pl (List.mem_of_getElem? ep)
        refine ⟨Z, _, v, .int pl, rfl, rfl, SqL.of (K3 _ _ Zd Zd hZE), e2, ?_⟩
        have g3 := gE.take K3 D3
        obtain ⟨ra, row0, ea, e1, er0, hra⟩ := g3.at' p0 p1
        rw [er] at er0
        cases er0
        have had := g3.aA ra (List.mem_of_getElem? ea)
        have lrow := od.row_len (List.mem_of_getElem? er)
        refine ⟨.ref d, rfl, .ref O, rfl, .int pl, rfl, O, _, pl, .ref ra, rfl, rfl, SqL.of g3.hO, e1, ra, _, rfl, .inl (SqL.of hra), d, _, rfl, g3.dk, by rw [List.length_map]; omega, by rw [List.length_map]; omega, fun x H4 x0 x1 D4 K4 => ?_⟩
        rw [List.length_map] at x1
        have g4 := g3.take K4 D4
        have hra4 := K4 _ _ had.2.2.1 had.2.2.1 hra
        refine ⟨.ref d, rfl, .ref O, rfl, .int pl, rfl, O, _, pl, .ref ra, rfl, rfl, SqL.of g4.hO, e1, ra, _, rfl, .inl (SqL.of hra4), d, _, rfl, g4.dk, by rw [List.length_map]; omega, by rw [List.length_map]; omega, fun y H5 y0 y1 D5 K5 => ?_⟩
        rw [List.length_map] at y1
        have g5 := g4.take K5 D5
        have hra5 := K5 _ _ had.2.2.1 had.2.2.1 hra4
        obtain ⟨a, ea1, ea2⟩ := getI (xs := row.map V.int) x0 (by rw [List.length_map]; exact x1)
        obtain ⟨b, eb1, eb2⟩ := getI (xs := row.map V.int) y0 (by rw [List.length_map]; exact y1)
        rw [List.getElem?_map] at ea2 eb2
        obtain ⟨a, ea3, rfl⟩ := Option.map_eq_some_iff.mp ea2
        obtain ⟨b, eb3, rfl⟩ := Option.map_eq_some_iff.mp eb2
        refine ⟨.ref O, rfl, .int pl, rfl, O, _, pl, .ref ra, rfl, rfl, SqL.of g5.hO, e1, ?_⟩
        refine ⟨.ref ra, rfl, .int y, rfl, ra, _, y, .int b, rfl, rfl, SqL.of hra5, eb1, .ref ra, rfl, .int x, rfl, ra, _, x, .int a, rfl, rfl, SqL.of hra5, ea1, by show 2 ≤ sizeLine; decide, fun c nc => ?_⟩
        have sc := same_new (o := .tup [.int b, .int a]) nc
        have g6 := g5.same sc
        have hra6 := sc _ _ hra5
        have hc6 : (upd H5 c (.tup [.int b, .int a])) c = some (.tup [.int b, .int a]) := upd_same
        generalize upd H5 c (.tup [.int b, .int a]) = H6 at g6 hra6 hc6 sc
        have ls : ((row.map V.int).set x.toNat (.int b)).length = row.length := by rw [List.length_set, List.length_map]
        refine ⟨c, _, rfl, SqT.of hc6, rfl, _, _, rfl, .ref ra, rfl, .int x, rfl, ra, row.map V.int, x, x.toNat, rfl, rfl, hra6, ixN_of x0 (by rw [List.length_map]; exact x1), _, _, rfl, .ref ra, rfl, .int y, rfl, ra, (row.map V.int).set x.toNat (.int b), y, y.toNat, rfl, rfl, upd_same, ixN_of y0 (by rw [ls]; exact y1), rfl, ?_⟩
        obtain ⟨xl, xe⟩ := List.getElem?_eq_some_iff.mp ea3
        obtain ⟨yl, ye⟩ := List.getElem?_eq_some_iff.mp eb3
        have em : ((row.map V.int).set x.toNat (.int b)).set y.toNat (.int a) = ((row.set x.toNat b).set y.toNat a).map V.int := by rw [List.map_set, List.map_set]
        have pm : ((row.set x.toNat b).set y.toNat a).Perm row := by
          rw [← xe, ← ye]
          exact List.set_set_perm xl yl
        have g7 := g6.row ea hra6 ((row.set x.toNat b).set y.toNat a)
        rw [upd_upd, em]
        refine q (rs.set pl.toNat ((row.set x.toNat b).set y.toNat a)) _ (od.perm (by rw [List.length_set]) fun i row' e => ?_) (by rw [List.length_set]) g7 ((((((Same.tk (s1.trans sE)).trans (gE.dk.tk K3)).trans (g3.dk.tk K4)).trans (g4.dk.tk K5)).trans (Same.tk sc)).trans (tk_lst hra6))
        by_cases ip : pl.toNat = i
        · subst ip
          rw [List.getElem?_set_self (by omega)] at e
          cases e
          exact ⟨row, er, pm⟩
        · rw [List.getElem?_set_ne ip] at e
          exact ⟨row', e, .refl _⟩
end
/-! ### flats: steps_behind -/
def othE (es : List (Int × Int)) (k p : Int) : Int := (es.getD k.toNat (0, 0)).1 + (es.getD k.toNat (0, 0)).2 - p
abbrev St2 := (Int × Int) × (Int × Int)
def stepR (es : List (Int × Int)) (p : Nat) (row : List Int) (m : Nat) : List St2 := (List.range m).map fun i => ((row.getD i 0, othE es (row.getD i 0) p), (row.getD ((i + 1) % row.length) 0, (p : Int)))
def stepsB (es : List (Int × Int)) (rs : List (List Int)) (m : Nat) : List St2 := (List.range m).flatMap fun p => stepR es p (rs.getD p []) (rs.getD p []).length
theorem stepR_succ (es : List (Int × Int)) (p : Nat) (row : List Int) (m : Nat) : stepR es p row (m + 1) = stepR es p row m ++ [((row.getD m 0, othE es (row.getD m 0) p), (row.getD ((m + 1) % row.length) 0, (p : Int)))] := by
  unfold stepR
  rw [List.range_succ, List.map_append]
  rfl
theorem stepsB_succ (es : List (Int × Int)) (rs : List (List Int)) (m : Nat) : stepsB es rs (m + 1) = stepsB es rs m ++ stepR es m (rs.getD m []) (rs.getD m []).length := by
  unfold stepsB
  rw [List.range_succ, List.flatMap_append]
  simp
def BhV (H : Hp) (kv : List Key × V) (b : St2) : Prop := kv.1 = [Sum.inl b.1.1, Sum.inl b.1.2] ∧ PrV H kv.2 b.2
theorem bh_tk {H H' : Hp} (k : Tk H H') {vs : List (List Key × V)} {bs : List St2} (h : Paired (BhV H) vs bs) : Paired (BhV H') vs bs := Paired.mono (fun _ _ x => ⟨x.1, x.2.tk k⟩) h
theorem bh_none {H : Hp} {x y : Int} : ∀ {kvs : List (List Key × V)} {bs : List St2}, Paired (BhV H) kvs bs → (∀ b ∈ bs, b.1 ≠ (x, y)) → valV kvs [Sum.inl x, Sum.inl y] = none
  | _, _, .nil, _ => rfl
  | kv :: kvs, b :: bs, .cons h t, no => by
    rw [valV_neg]
    · exact bh_none t fun c hc => no c (List.mem_cons_of_mem _ hc)
    · intro e
      rw [h.1] at e
      have := no b List.mem_cons_self
      simp only [List.cons.injEq, Sum.inl.injEq, and_true] at e
      exact this (Prod.ext e.1 e.2)
theorem bh_put {H : Hp} {x y : Int} {kvs : List (List Key × V)} {bs : List St2} {v : V} (h : Paired (BhV H) kvs bs) (no : ∀ b ∈ bs, b.1 ≠ (x, y)) : putK kvs [Sum.inl x, Sum.inl y] v = kvs ++ [([Sum.inl x, Sum.inl y], v)] := by
  unfold putK
  rw [valV_any, bh_none h no, if_neg (by simp)]
theorem othE_inj {es : List (Int × Int)} {k p q : Int} (h : othE es k p = othE es k q) : p = q := by
  unfold othE at h
  omega
theorem stepR_mem {es : List (Int × Int)} {p : Nat} {row : List Int} {m : Nat} {b : St2} (h : b ∈ stepR es p row m) : ∃ i, i < m ∧ b.1 = (row.getD i 0, othE es (row.getD i 0) p) := by
  unfold stepR at h
  obtain ⟨i, hi, rfl⟩ := List.mem_map.mp h
  exact ⟨i, List.mem_range.mp hi, rfl⟩
theorem step_new {es : List (Int × Int)} {rs : List (List Int)} {i j : Nat} {row : List Int} (er : rs[i]? = some row) (nd : row.Nodup) (hj : j < row.length) : ∀ b ∈ stepsB es rs i ++ stepR es i row j, b.1 ≠ (row.getD j 0, othE es (row.getD j 0) i) := by
  intro b hb e
  rcases List.mem_append.mp hb with h | h
  · unfold stepsB at h
    obtain ⟨p, hp, h⟩ := List.mem_flatMap.mp h
    have hp := List.mem_range.mp hp
    obtain ⟨i', _, e'⟩ := stepR_mem h
    rw [e'] at e
    have e1 := (Prod.mk.injEq .. ▸ e).1
    have e2 := (Prod.mk.injEq .. ▸ e).2
    rw [e1] at e2
    have := othE_inj e2
    omega
  · obtain ⟨i', hi', e'⟩ := stepR_mem h
    rw [e'] at e
    have e1 := (Prod.mk.injEq .. ▸ e).1
    rw [List.getD_eq_getElem?_getD, List.getD_eq_getElem?_getD, List.getElem?_eq_getElem hj, List.getElem?_eq_getElem (by omega)] at e1
    exact List.pairwise_iff_getElem.mp nd i' j (by omega) hj hi' e1
theorem rot1 {row : List Int} {i : Nat} (hi : i < row.length) : (row.drop 1 ++ row.take 1)[i]? = some (row.getD ((i + 1) % row.length) 0) := by
  by_cases h : i + 1 < row.length
  · rw [List.getElem?_append_left (by rw [List.length_drop]; omega), List.getElem?_drop, Nat.mod_eq_of_lt h, Nat.add_comm, List.getElem?_eq_getElem h, List.getD_eq_getElem?_getD, List.getElem?_eq_getElem h]
    rfl
  · have e : i + 1 = row.length := by omega
    rw [List.getElem?_append_right (by rw [List.length_drop]; omega), List.length_drop, show i - (row.length - 1) = 0 by omega, e, Nat.mod_self, List.getElem?_take_of_lt (by omega), List.getElem?_eq_getElem (show 0 < row.length by omega), List.getD_eq_getElem?_getD, List.getElem?_eq_getElem (show 0 < row.length by omega)]
    rfl
theorem cut_rot (xs : List V) : cutV xs (some 1) none ++ cutV xs none (some 1) = xs.drop 1 ++ xs.take 1 := by
  cases xs with
  | nil => rfl
  | cons x xs =>
    have h : (1 : Nat) ≤ (x :: xs).length := by simp
    have a := cut_drop (xs := x :: xs) h
    have b := cut_take (xs := x :: xs) h
    have e : (((1 : Nat) : Int)) = 1 := rfl
    rw [e] at a b
    rw [a, b]
theorem stepR_len (es : List (Int × Int)) (p : Nat) (row : List Int) (m : Nat) : (stepR es p row m).length = m := by
  unfold stepR
  rw [List.length_map, List.length_range]
def spSteps : Sp := fun vs H Q _ => ∃ (wv : V) (n : Int) (ts : List Tie) (o : Addr) (us : List V) (rs : List (List Int)) (es : List (Int × Int)), vs = [wv, .ref o] ∧ WebAt H wv n ts ∧ H o = some (.tup us) ∧ Paired (IntsV H) us rs ∧ Ord rs es ∧ TwE ts es ∧ rs.length ≤ 100 ∧ es.length ≤ 200 ∧
  ∀ D kvs H', Same H H' → H' D = some (.dT kvs) → Paired (BhV H') kvs (stepsB es rs rs.length) → Q (.ref D) H'
theorem walk_zipT {K : PySem.W.Frag} {a b : Addr} {xs ys : List V} {n : Nat} (hn : n = min xs.length ys.length) : Walk (RZ.ItzT K a b) n (fun H => SqT K H a xs ∧ SqT K H b ys) (YPair (fun i => xs[i]?) (fun i => ys[i]?)) := by
  subst hn
  refine ⟨fun i _ hi q => ?_, fun _ q => ⟨xs, ys, q.1, q.2, by omega⟩, fun i H v H' _ q y => ?_⟩
  · have h1 : i < xs.length := by omega
    have h2 : i < ys.length := by omega
    exact ⟨xs, ys, xs[i], ys[i], q.1, q.2, by simp [h1], by simp [h2]⟩
  · obtain ⟨T, x, z, h1, h2, h3, h4, h5⟩ := y
    exact ⟨T, x, z, h1, h2, h3, h4 xs q.1, h5 ys q.2⟩
section
variable {P : Program} {w : World} {K : PySem.W.Frag} {mg : Str → Option Value} {base : Heap}
set_option maxHeartbeats 2000000 in
theorem ok_steps_behind {f : Addr} {fd : FuncData} (F : Fun K "steps_behind" "steps_behind" s_steps_behind f fd) (m_enumerate : mg "enumerate" = none) (m_zip : mg "zip" = none) : FnOk P w K mg base CX0 1 f fd ["web", "orders"] spSteps := by
  refine F.ok sc_steps_behind (fun vs H Q E h => ?_) (fun cdv A outer s H vs Q E hr h => ?_)
  · obtain ⟨wv, n, ts, o, us, rs, es, rfl, _⟩ := h
    rfl
  · obtain ⟨wv, n, ts, o, us, rs, es, rfl, hW, ho, hp, od, tw, lr, le, q⟩ := h
    have hu := room1 hr
    refine ⟨_, (pss_cons (ps_set (i := 2) sc_steps_behind.nd rfl (.inl rfl) pe_dnewT)
      (pss_cons (ps_for PassesOwn.never rfl (pi_enumT (by rfl) m_enumerate (pa_cons (pv 1) pa_nil)) (pg_tup rfl (pgs_cons (pg_name (i := 3) sc_steps_behind.nd rfl (.inl rfl)) (pgs_cons (pg_name (i := 4) sc_steps_behind.nd rfl (.inl rfl)) pgs_nil)))
        (pss_one (ps_for PassesOwn.never rfl (RZ.pi_zipA (by rfl) m_zip (pa_cons (pv 4) (pa_cons (pe_op op_catU (pe_slice sl_tupU (pv 4) (po_some pe_int) po_none) (pe_slice sl_tupU (pv 4) po_none (po_some pe_int))) pa_nil))) (pg_tup rfl (pgs_cons (pg_name (i := 5) sc_steps_behind.nd rfl (.inl rfl)) (pgs_cons (pg_name (i := 6) sc_steps_behind.nd rfl (.inl rfl)) pgs_nil)))
          (pss_cons (ps_asg (pe_ix ix_tup (pe_ix ix_tup (pv 0) pe_int (fun _ _ => rfl)) (pv 5) (fun _ _ => rfl)) (pg_tup rfl (pgs_cons (pg_name (i := 7) sc_steps_behind.nd rfl (.inl rfl)) (pgs_cons (pg_name (i := 8) sc_steps_behind.nd rfl (.inl rfl)) (pgs_cons (pg_name (i := 9) sc_steps_behind.nd rfl (.inl rfl)) pgs_nil)))))
          (pss_one (ps_dput hu (pv 2) (pe_tup (pa_cons (pv 5) (pa_cons (pe_ifExp (pt_cmpR op_eq (pv 3) (pv 7) (nomark _)) (pv 8) (pv 7)) pa_nil))) (pe_tup (pa_cons (pv 6) (pa_cons (pv 3) pa_nil))) rfl))))))
      (pss_one (ps_ret (pv 2))))), ?_⟩
    obtain ⟨wa, wb, ws, rfl, hwa, hwb, hpw⟩ := id hW
    have lu : us.length = rs.length := Paired.length hp
    refine fun D nD => ?_
    have s1 := same_new (o := .dT []) nD
    have hD1 : (upd H D (.dT [])) D = some (.dT []) := upd_same
    generalize upd H D (.dT []) = H1 at s1 hD1
    refine ⟨.ref o, rfl, o, us, rfl, SqT.of (s1 _ _ ho), ?_⟩
    refine for_it (walk_enumT (xs := us)) (fun i σ' H' => ∃ (y3 y4 y5 y6 y7 y8 y9 : Option V) (kvs : List (List Key × V)), σ' = [some (.ref wa), some (.ref o), some (.ref D), y3, y4, y5, y6, y7, y8, y9] ∧ H' D = some (.dT kvs) ∧ Paired (BhV H') kvs (stepsB es rs i) ∧ kvs.length ≤ 200 * i ∧ Same H H') ⟨none, none, none, none, none, none, none, [], rfl, hD1, .nil, Nat.le_refl _, s1⟩ (fun i σ' H' _ h => by
      obtain ⟨_, _, _, _, _, _, _, _, _, _, _, _, s⟩ := h
      exact SqT.of (s _ _ ho)) ?_ ?_
    · rintro i x σ' H2 H3 hi ⟨y3, y4, y5, y6, y7, y8, y9, kvs, rfl, hD2, hb, lk0, s2⟩ ⟨T, x1, y1, rfl, nT, rfl, gx, gy⟩
      obtain rfl : V.int (i : Nat) = x1 := Option.some.inj gx
      have gy : us[i]? = some y1 := gy
      obtain ⟨row, er, a, rfl, ha⟩ := Paired.at hp gy
      have sT := same_new (o := .tup [.int (i : Nat), .ref a]) nT
      have hT3 := upd_same (H := H2) (a := T) (o := .tup [.int (i : Nat), .ref a])
      have hD3 := sT _ _ hD2
      have hb3 := bh_tk (Same.tk sT) hb
      have s3 := s2.trans sT
      generalize upd H2 T (.tup [.int (i : Nat), .ref a]) = H3 at hT3 hD3 hb3 s3
      have eg : rs.getD i [] = row := by rw [List.getD_eq_getElem?_getD, er]; rfl
      have hrm := List.mem_of_getElem? er
      have ndr := od.nd row hrm
      have lrow := od.row_len hrm
      refine ⟨T, _, rfl, SqT.of hT3, rfl, _, _, rfl, _, _, rfl, rfl, ?_⟩
      refine ⟨.ref a, rfl, .ref a, rfl, 1, rfl, a, _, rfl, s3 _ _ ha, fun r1 H4 s4 h4 => ⟨.ref a, rfl, 1, rfl, a, _, rfl, s4 _ _ (s3 _ _ ha), fun r2 H5 s5 h5 => ?_⟩⟩
      have hlen : (cutV (row.map V.int) (some 1) none).length + (cutV (row.map V.int) none (some 1)).length ≤ 100000 := by
        have h1 := cutV_length (row.map V.int) (some 1) none
        have h2 := cutV_length (row.map V.int) none (some 1)
        rw [List.length_map] at h1 h2
        omega
      refine ⟨r1, r2, _, _, rfl, rfl, s5 _ _ h4, h5, hlen, fun r3 H6 s6 h6 => ?_⟩
      rw [cut_rot] at h6
      have s36 := ((s4.trans s5).trans s6)
      have sA := s3.trans s36
      have hD6 := s36 _ _ hD3
      have hb6 := bh_tk (Same.tk s36) hb3
      clear hD3 hb3 hb hD2 s4 h4 s5 h5 s6 hT3
      refine ⟨a, r3, _, _, rfl, .inr ⟨SqT.of (sA _ _ ha), SqT.of h6, ?_⟩⟩
      have lz : ((row.map V.int).drop 1 ++ (row.map V.int).take 1).length = row.length := by
        rw [List.length_append, List.length_drop, List.length_take, List.length_map]
        omega
      refine for_it (walk_zipT (xs := row.map V.int) (ys := (row.map V.int).drop 1 ++ (row.map V.int).take 1) (n := row.length) (by rw [lz, List.length_map]; omega)) (fun j σ' H' => ∃ (y5 y6 y7 y8 y9 : Option V) (kvs : List (List Key × V)), σ' = [some (.ref wa), some (.ref o), some (.ref D), some (.int (i : Nat)), some (.ref a), y5, y6, y7, y8, y9] ∧ H' D = some (.dT kvs) ∧ Paired (BhV H') kvs (stepsB es rs i ++ stepR es i row j) ∧ H' r3 = some (.tup ((row.map V.int).drop 1 ++ (row.map V.int).take 1)) ∧ kvs.length ≤ 200 * i + j ∧ Same H H') ⟨_, _, _, _, _, kvs, rfl, hD6, by rw [show stepR es i row 0 = [] from rfl, List.append_nil]; exact hb6, h6, lk0, sA⟩ (fun j σ' H' _ h => by
        obtain ⟨_, _, _, _, _, _, _, _, _, h3, _, s⟩ := h
        exact ⟨SqT.of (s _ _ ha), SqT.of h3⟩) ?_ ?_
      · clear hD6 hb6 sA s36 h6
        rintro j x σ' H7 H8 hj ⟨y5, y6, y7, y8, y9, kvs, rfl, hD7, hb7, h7, lk, s7⟩ ⟨T2, x2, y2, rfl, nT2, rfl, gx2, gy2⟩
        have gx2 : (row.map V.int)[j]? = some x2 := gx2
        have gy2 : ((row.map V.int).drop 1 ++ (row.map V.int).take 1)[j]? = some y2 := gy2
        have ej := List.getElem?_eq_getElem hj
        have egj : row.getD j 0 = row[j] := by rw [List.getD_eq_getElem?_getD, ej]; rfl
        rw [List.getElem?_map, ej] at gx2
        cases gx2
        have er1 := rot1 hj
        rw [← List.map_drop, ← List.map_take, ← List.map_append, List.getElem?_map, er1] at gy2
        cases gy2
        have sT2 := same_new (o := .tup [.int row[j], .int (row.getD ((j + 1) % row.length) 0)]) nT2
        have hT8 := upd_same (H := H7) (a := T2) (o := .tup [.int row[j], .int (row.getD ((j + 1) % row.length) 0)])
        have hD8 := sT2 _ _ hD7
        have hb8 := bh_tk (Same.tk sT2) hb7
        have h8 := sT2 _ _ h7
        have s8 := s7.trans sT2
        generalize upd H7 T2 (.tup [.int row[j], .int (row.getD ((j + 1) % row.length) 0)]) = H8 at hT8 hD8 hb8 h8 s8
        obtain ⟨k, e, ek, ee, pe⟩ := (od.mem i row er row[j]).mp (List.getElem_mem hj)
        have kl := (List.getElem?_eq_some_iff.mp ee).1
        obtain ⟨t, et⟩ : ∃ t, ts[k]? = some t := ⟨_, List.getElem?_eq_getElem (by rw [tw.1]; exact kl)⟩
        have jt := tw.2 k t e et ee
        have ends := od.ends e (List.mem_of_getElem? ee)
        obtain ⟨u, eu, tc, rfl, htc⟩ := Paired.at' hpw et
        refine ⟨T2, _, rfl, SqT.of hT8, rfl, _, _, rfl, _, _, rfl, rfl, ?_⟩
        refine ⟨.ref wa, rfl, wa, _, 1, .ref wb, rfl, rfl, SqT.of (s8 _ _ hwa), rfl, .int row[j], rfl, wb, _, row[j], .ref tc, rfl, rfl, SqT.of (s8 _ _ hwb), (by rw [ek]; exact atI_nat eu), tc, _, rfl, SqT.of (s8 _ _ htc), rfl, _, _, rfl, _, _, rfl, _, _, rfl, rfl, ?_⟩
        refine ⟨.int (row.getD ((j + 1) % row.length) 0), rfl, .int (i : Nat), rfl, by show 2 ≤ sizeLine; decide, fun v nv => ?_⟩
        have sv := same_new (o := .tup [.int (row.getD ((j + 1) % row.length) 0), .int (i : Nat)]) nv
        have hv9 := upd_same (H := H8) (a := v) (o := .tup [.int (row.getD ((j + 1) % row.length) 0), .int (i : Nat)])
        refine ⟨.ref D, rfl, .int row[j], rfl, .int (i : Nat), rfl, .int t.one, rfl, rfl, _, rfl, ?_⟩
        rw [dec_intF]
        have oe : othE es row[j] i = e.1 + e.2 - (i : Int) := by
          unfold othE
          rw [ek, List.getD_eq_getElem?_getD, Int.toNat_natCast, ee]
          rfl
        by_cases ci : ((i : Nat) : Int) = t.one
        · rw [decide_eq_true ci]
          have eq0 : t.other = othE es row[j] i := by rw [oe]; omega
          refine ⟨.int t.other, rfl, by show 2 ≤ sizeLine; decide, fun kk nk => ?_⟩
          have sk := same_new (o := .tup [.int row[j], .int t.other]) nk
          have hk9 := upd_same (H := upd H8 v (.tup [.int (row.getD ((j + 1) % row.length) 0), .int (i : Nat)])) (a := kk) (o := .tup [.int row[j], .int t.other])
          have s9 := sv.trans sk
          have hv10 := sk _ _ hv9
          have hD9 := s9 _ _ hD8
          have hb9 := bh_tk (Same.tk s9) hb8
          have h9 := s9 _ _ h8
          have sB := s8.trans s9
          generalize upd (upd H8 v (.tup [.int (row.getD ((j + 1) % row.length) 0), .int (i : Nat)])) kk (.tup [.int row[j], .int t.other]) = H9 at hk9 hv10 hD9 hb9 h9 sB
          have hlt : kvs.length < sizeLine := Nat.lt_of_succ_le (Evl.sz_of (by omega))
          refine ⟨D, _, rfl, DPut.t (k := [Sum.inl row[j], Sum.inl t.other]) hD9 hk9 hlt, ?_⟩
          have nw := step_new (es := es) er ndr hj
          rw [egj, ← eq0] at nw
          rw [bh_put hb9 nw]
          have tkD : Tk H9 (upd H9 D (.dT (kvs ++ [([Sum.inl row[j], Sum.inl t.other], .ref v)]))) := fun b zs eb => by
            rw [upd_ne (fun z => by rw [z, hD9] at eb; cases eb)]
            exact eb
          refine ⟨_, _, _, _, _, kvs ++ [([Sum.inl row[j], Sum.inl t.other], .ref v)], rfl, upd_same, ?_, tkD _ _ h9, by rw [List.length_append]; show _ + 1 ≤ _; omega, Same.mut sB nD⟩
          rw [stepR_succ, ← List.append_assoc, egj, ← eq0]
          exact Paired.snoc (bh_tk tkD hb9) ⟨rfl, v, rfl, tkD _ _ hv10⟩
        · rw [decide_eq_false ci]
          have eq0 : t.one = othE es row[j] i := by rw [oe]; omega
          refine ⟨.int t.one, rfl, by show 2 ≤ sizeLine; decide, fun kk nk => ?_⟩
          have sk := same_new (o := .tup [.int row[j], .int t.one]) nk
          have hk9 := upd_same (H := upd H8 v (.tup [.int (row.getD ((j + 1) % row.length) 0), .int (i : Nat)])) (a := kk) (o := .tup [.int row[j], .int t.one])
          have s9 := sv.trans sk
          have hv10 := sk _ _ hv9
          have hD9 := s9 _ _ hD8
          have hb9 := bh_tk (Same.tk s9) hb8
          have h9 := s9 _ _ h8
          have sB := s8.trans s9
          generalize upd (upd H8 v (.tup [.int (row.getD ((j + 1) % row.length) 0), .int (i : Nat)])) kk (.tup [.int row[j], .int t.one]) = H9 at hk9 hv10 hD9 hb9 h9 sB
          have hlt : kvs.length < sizeLine := Nat.lt_of_succ_le (Evl.sz_of (by omega))
          refine ⟨D, _, rfl, DPut.t (k := [Sum.inl row[j], Sum.inl t.one]) hD9 hk9 hlt, ?_⟩
          have nw := step_new (es := es) er ndr hj
          rw [egj, ← eq0] at nw
          rw [bh_put hb9 nw]
          have tkD : Tk H9 (upd H9 D (.dT (kvs ++ [([Sum.inl row[j], Sum.inl t.one], .ref v)]))) := fun b zs eb => by
            rw [upd_ne (fun z => by rw [z, hD9] at eb; cases eb)]
            exact eb
          refine ⟨_, _, _, _, _, kvs ++ [([Sum.inl row[j], Sum.inl t.one], .ref v)], rfl, upd_same, ?_, tkD _ _ h9, by rw [List.length_append]; show _ + 1 ≤ _; omega, Same.mut sB nD⟩
          rw [stepR_succ, ← List.append_assoc, egj, ← eq0]
          exact Paired.snoc (bh_tk tkD hb9) ⟨rfl, v, rfl, tkD _ _ hv10⟩
      · rintro σ' H7 ⟨y5, y6, y7, y8, y9, kvs, rfl, hD7, hb7, h7, lk, s7⟩
        refine ⟨_, _, _, _, _, _, _, kvs, rfl, hD7, ?_, by omega, s7⟩
        rw [stepsB_succ, eg]
        exact hb7
    · rintro σ' H2 ⟨y3, y4, y5, y6, y7, y8, y9, kvs, rfl, hD2, hb, lk0, s2⟩
      rw [lu] at hb
      exact ⟨.ref D, rfl, q D kvs _ s2 hD2 hb⟩
end
/-! ### flats: face_from, _law_behind -/
theorem eqv_twoF (x y u v : Int) : PyData.eqv (intsD [x, y]) (intsD [u, v]) = (decide (u = x) && decide (v = y)) := by
  show PyData.eqv (.tuple [.int x, .int y]) (.tuple [.int u, .int v]) = _
  rw [PyData.eqv, PyData.eqvAll, PyData.eqv, PyData.eqvAll, PyData.eqv, PyData.eqvAll, Bool.and_true]
  rw [Bool.eq_iff_iff, Bool.and_eq_true, Bool.and_eq_true, beq_iff_eq, beq_iff_eq, decide_eq_true_iff, decide_eq_true_iff]
  exact ⟨fun h => ⟨h.1.symm, h.2.symm⟩, fun h => ⟨h.1.symm, h.2.symm⟩⟩
theorem bh_get {H : Hp} {x y u v : Int} : ∀ {kvs : List (List Key × V)} {bs : List St2}, Paired (BhV H) kvs bs → (bs.map (·.1)).Nodup → ((x, y), (u, v)) ∈ bs → ∃ a, valV kvs [Sum.inl x, Sum.inl y] = some (.ref a) ∧ H a = some (.tup [.int u, .int v])
  | _, _, .nil, _, h => by cases h
  | kv :: kvs, b :: bs, .cons h t, nd, hm => by
    rw [List.map_cons] at nd
    have nd' := List.nodup_cons.mp nd
    by_cases e : b.1 = (x, y)
    · have eb : b = ((x, y), (u, v)) := by
        rcases List.mem_cons.mp hm with z | z
        · exact z.symm
        · exact (nd'.1 (List.mem_map.mpr ⟨_, z, e.symm⟩)).elim
      subst eb
      obtain ⟨h1, a, h2, h3⟩ := h
      refine ⟨a, ?_, h3⟩
      rw [valV_pos (p := kv) h1, h2]
    · have hm' : ((x, y), (u, v)) ∈ bs := by
        rcases List.mem_cons.mp hm with z | z
        · exact (e (by rw [← z])).elim
        · exact z
      obtain ⟨a, h1, h2⟩ := bh_get t nd'.2 hm'
      refine ⟨a, ?_, h2⟩
      rw [valV_neg]
      · exact h1
      · intro z
        rw [h.1] at z
        simp only [List.cons.injEq, Sum.inl.injEq, and_true] at z
        exact e (Prod.ext z.1 z.2)
theorem ixN_last {n : Nat} (h : 0 < n) : ixN n (-1) = some (n - 1) := by
  unfold ixN
  rw [if_neg (by decide), if_pos (by omega)]
  congr 1
  omega
theorem atI_last {α : Type} {xs : List α} {v : α} (h : xs[xs.length - 1]? = some v) : atI xs (-1) = some v := by
  have := (List.getElem?_eq_some_iff.mp h).1
  unfold atI
  rw [ixN_last (by omega)]
  exact h
/-- a way round, back to where it began, which is met but once -/
structure Cyc (bs : List St2) (s : Int × Int) (ps : List (Int × Int)) : Prop where
  hd : ps[0]? = some s
  st : ∀ (i : Nat) (x y : Int × Int), ps[i]? = some x → ps[i + 1]? = some y → (x, y) ∈ bs
  cl : ∀ x : Int × Int, ps[ps.length - 1]? = some x → (x, s) ∈ bs
  no : ∀ (i : Nat) (x : Int × Int), 0 < i → ps[i]? = some x → x ≠ s
def spFace : Sp := fun vs H Q _ => ∃ (f D : Addr) (kvs : List (List Key × V)) (bs : List St2) (s : Int × Int) (ps : List (Int × Int)), vs = [.ref f, .ref D] ∧ H f = some (.tup [.int s.1, .int s.2]) ∧ H D = some (.dT kvs) ∧ Paired (BhV H) kvs bs ∧ (bs.map (·.1)).Nodup ∧ Cyc bs s ps ∧ ps.length ≤ 1000 ∧
  ∀ r vs' H', Same H H' → H' r = some (.tup vs') → Paired (PrV H') vs' ps → Q (.ref r) H'
def spBehindL : Sp := fun vs H Q _ => ∃ (wv : V) (n : Int) (ts : List Tie) (o st : Addr) (us : List V) (rs : List (List Int)) (es : List (Int × Int)) (k : Nat) (p : Nat) (row : List Int) (i : Nat), vs = [wv, .ref o, .ref st] ∧ WebAt H wv n ts ∧ H o = some (.tup us) ∧ Paired (IntsV H) us rs ∧ Ord rs es ∧ TwE ts es ∧ es.length ≤ 200 ∧ k < es.length ∧ rs[p]? = some row ∧ row[i]? = some (k : Int) ∧ H st = some (.tup [.int (k : Nat), .int (othE es k p)]) ∧
  ∀ r H', Same H H' → H' r = some (.tup [.int (row.getD ((i + 1) % row.length) 0), .int (p : Nat)]) → Q (.ref r) H'
section
variable {P : Program} {w : World} {K : PySem.W.Frag} {mg : Str → Option Value} {base : Heap}
set_option maxHeartbeats 2000000 in
theorem ok_face_from {f : Addr} {fd : FuncData} (F : Fun K "face_from" "face_from" s_face_from f fd) (M : Free mg) : FnOk P w K mg base CX0 1 f fd ["first", "behind"] spFace := by
  refine F.ok sc_face_from (fun vs H Q E h => ?_) (fun cdv A outer s H vs Q E hr h => ?_)
  · obtain ⟨f0, D, kvs, bs, s0, ps, rfl, _⟩ := h
    rfl
  · obtain ⟨f0, D, kvs, bs, s0, ps, rfl, hf, hD, hb, nd, cy, lp, q⟩ := h
    have hu := room1 hr
    refine ⟨_, (pss_cons (ps_set (i := 2) sc_face_from.nd rfl (.inl rfl) (pe_lst (pa_cons (pv 0) pa_nil)))
      (pss_cons (ps_while PassesOwn.never (pt_cmpR (op_neD hr.units) (pe_dget hu (pv 1) (pe_ix ix_list (pv 2) (pe_un un_neg pe_int) (fun _ _ => rfl)) (fun _ _ => rfl)) (pv 0) (nomark _))
        (pss_one (ps_expr (pe_bm PySem.F.plainAttrs_list PySem.F.slot_list_append PySem.F.type_list_append mt_append (pv 2) (pa_cons (pe_dget hu (pv 1) (pe_ix ix_list (pv 2) (pe_un un_neg pe_int) (fun _ _ => rfl)) (fun _ _ => rfl)) pa_nil)))))
      (pss_one (ps_ret (pe_callTy call_tuple_of (by rfl) M.tuple (by decide +kernel) (pa_cons (pv 2) pa_nil)))))), ?_⟩
    refine ⟨.ref f0, rfl, by show 1 ≤ sizeLine; decide, fun L nL => ?_⟩
    have sL := same_new (o := .lst [.ref f0]) nL
    have hL1 : (upd H L (.lst [.ref f0])) L = some (.lst [.ref f0]) := upd_same
    generalize upd H L (.lst [.ref f0]) = H1 at sL hL1
    have ppos : 0 < ps.length := (List.getElem?_eq_some_iff.mp cy.hd).1
    have et1 : ps.take 1 = [s0] := by
      have := cy.hd
      cases hps : ps with
      | nil => rw [hps] at this; cases this
      | cons a as =>
        rw [hps] at this
        cases this
        rfl
    refine ⟨fun m σ' H' => ∃ (k : Nat) (vs : List V), σ' = [some (.ref f0), some (.ref D), some (.ref L)] ∧ H' L = some (.lst vs) ∧ Paired (PrV H') vs (ps.take k) ∧ 1 ≤ k ∧ k ≤ ps.length ∧ m = ps.length - k ∧ Same H H', ⟨ps.length - 1, 1, [.ref f0], rfl, hL1, by rw [et1]; exact .cons ⟨f0, rfl, sL _ _ hf⟩ .nil, Nat.le_refl _, ppos, rfl, sL⟩, ?_⟩
    rintro m σ' H2 ⟨k, vs, rfl, hL, hv, k1, kl, rfl, s2⟩
    have lv := Paired.length hv
    rw [List.length_take] at lv
    obtain ⟨x, ex⟩ : ∃ x, ps[k - 1]? = some x := ⟨_, List.getElem?_eq_getElem (by omega)⟩
    have ext : (ps.take k)[k - 1]? = some x := by rw [List.getElem?_take_of_lt (by omega)]; exact ex
    obtain ⟨u, eu, c, rfl, hc⟩ := Paired.at' hv ext
    have lvk : vs.length = k := by omega
    have atl : atI vs (-1) = some (.ref c) := atI_last (by rw [lvk]; exact eu)
    have hD2 := s2 _ _ hD
    have hb2 := bh_tk (Same.tk s2) hb
    have get : ∀ y : Int × Int, (x, y) ∈ bs → ∃ b, DGet H2 D (.ref c) (some (.ref b)) ∧ H2 b = some (.tup [.int y.1, .int y.2]) := fun y hy => by
      obtain ⟨b, h1, h2⟩ := bh_get (x := x.1) (y := x.2) (u := y.1) (v := y.2) hb2 nd hy
      have g := DGet.t (k := [Sum.inl x.1, Sum.inl x.2]) hD2 hc
      rw [h1] at g
      exact ⟨b, g, h2⟩
    by_cases hk : k < ps.length
    · obtain ⟨y, ey⟩ : ∃ y, ps[k]? = some y := ⟨_, List.getElem?_eq_getElem hk⟩
      obtain ⟨b, g, hb'⟩ := get y (cy.st (k - 1) x y ex (by rw [show k - 1 + 1 = k by omega]; exact ey))
      have ny := cy.no k y (by omega) ey
      refine ⟨.ref D, rfl, .ref L, rfl, 1, rfl, L, vs, -1, .ref c, rfl, rfl, SqL.of hL, atl, D, .ref b, rfl, g, .ref f0, rfl, _, _, IntsV.dp (xs := [y.1, y.2]) ⟨b, rfl, hb'⟩, IntsV.dp (xs := [s0.1, s0.2]) ⟨f0, rfl, s2 _ _ hf⟩, shaped_intsD _, shaped_intsD _, true, ?_, ?_⟩
      · rw [eqv_twoF]
        congr 1
        rw [Bool.not_eq_true', Bool.and_eq_false_iff, decide_eq_false_iff_not, decide_eq_false_iff_not]
        by_cases z : s0.1 = y.1
        · exact .inr fun z2 => ny (Prod.ext z.symm z2.symm)
        · exact .inl z
      · refine ⟨_, fun _ _ h => h, ?_⟩
        have tk := tk_lst (ys := vs ++ [.ref b]) hL
        refine ⟨.ref L, rfl, .inl ⟨rfl, _, SqL.of hL⟩, .ref D, rfl, .ref L, rfl, 1, rfl, L, vs, -1, .ref c, rfl, rfl, SqL.of hL, atl, D, .ref b, rfl, g, L, vs, _, rfl, rfl, hL, Nat.lt_of_succ_le (Evl.sz_of (by omega)), ?_⟩
        refine ⟨ps.length - (k + 1), by omega, k + 1, vs ++ [.ref b], rfl, upd_same, ?_, by omega, hk, rfl, Same.mut s2 nL⟩
        rw [List.take_add_one, ey]
        exact Paired.snoc (pr_tk tk hv) ⟨b, rfl, tk _ _ hb'⟩
    · have ek : k = ps.length := by omega
      obtain ⟨b, g, hb'⟩ := get s0 (cy.cl x (by rw [← ek]; exact ex))
      refine ⟨.ref D, rfl, .ref L, rfl, 1, rfl, L, vs, -1, .ref c, rfl, rfl, SqL.of hL, atl, D, .ref b, rfl, g, .ref f0, rfl, _, _, IntsV.dp (xs := [s0.1, s0.2]) ⟨b, rfl, hb'⟩, IntsV.dp (xs := [s0.1, s0.2]) ⟨f0, rfl, s2 _ _ hf⟩, shaped_intsD _, shaped_intsD _, false, ?_, ?_⟩
      · rw [eqv_twoF, decide_eq_true rfl, decide_eq_true rfl]
        rfl
      · rw [ek, List.take_length] at hv
        refine ⟨.ref L, rfl, L, vs, rfl, .inl ⟨SqL.of hL, fun r nr => ?_⟩⟩
        have sr := same_new (o := .tup vs) nr
        exact q r vs _ (s2.trans sr) upd_same (pr_tk (Same.tk sr) hv)
set_option maxHeartbeats 2000000 in
theorem ok_l_behind {f : Addr} {fd : FuncData} (F : Fun K "_law_behind" "_law_behind" s_l_behind f fd) (M : Free mg) : FnOk P w K mg base CX0 1 f fd ["_law_web_here", "_law_orders", "_law_step"] spBehindL := by
  refine F.ok sc_l_behind (fun vs H Q E h => ?_) (fun cdv A outer s H vs Q E hr h => ?_)
  · obtain ⟨wv, n, ts, o, sa, us, rs, es, k, p, row, i0, rfl, _⟩ := h
    rfl
  · obtain ⟨wv, n, ts, o, sa, us, rs, es, k, p, row, i0, rfl, hW, ho, hp, od, tw, le, hk, er, ei, hst, q⟩ := h
    refine ⟨_, (pss_cons (ps_asg (pe_ix ix_tup (pe_ix ix_tup (pv 0) pe_int (fun _ _ => rfl)) (pe_ix ix_tup (pv 2) pe_int (fun _ _ => rfl)) (fun _ _ => rfl)) (pg_tup rfl (pgs_cons (pg_name (i := 3) sc_l_behind.nd rfl (.inl rfl)) (pgs_cons (pg_name (i := 4) sc_l_behind.nd rfl (.inl rfl)) (pgs_cons (pg_name (i := 5) sc_l_behind.nd rfl (.inl rfl)) pgs_nil)))))
      (pss_cons (ps_set (i := 6) sc_l_behind.nd rfl (.inl rfl) (pe_op op_sub (pe_op op_add (pv 3) (pv 4)) (pe_ix ix_tup (pv 2) pe_int (fun _ _ => rfl))))
      (pss_cons (ps_set (i := 7) sc_l_behind.nd rfl (.inl rfl) (pe_ix ix_tup (pv 1) (pv 6) (fun _ _ => rfl)))
      (pss_cons (ps_for PassesOwn.never rfl (pi_range1 (by rfl) M.range (pa_cons (pe_callB call_len_seq (by rfl) M.len PySem.boot_len (pa_cons (pv 7) pa_nil)) pa_nil)) (pg_name (i := 8) sc_l_behind.nd rfl (.inl rfl))
        (pss_one (ps_if (pt_cmpR op_eq (pe_ix ix_tup (pv 7) (pe_op op_sub (pv 8) pe_int) (fun _ _ => rfl)) (pe_ix ix_tup (pv 2) pe_int (fun _ _ => rfl)) (nomark _))
          (pss_one (ps_ret (pe_tup (pa_cons (pe_ix ix_tup (pv 7) (pv 8) (fun _ _ => rfl)) (pa_cons (pv 6) pa_nil)))))
          pss_nil)))
      (pss_one (ps_ret pe_non)))))), ?_⟩
    obtain ⟨wa, wb, ws, rfl, hwa, hwb, hpw⟩ := id hW
    obtain ⟨e, ee⟩ : ∃ e, es[k]? = some e := ⟨_, List.getElem?_eq_getElem hk⟩
    obtain ⟨t, et⟩ : ∃ t, ts[k]? = some t := ⟨_, List.getElem?_eq_getElem (by rw [tw.1]; exact hk)⟩
    have jt := tw.2 k t e et ee
    obtain ⟨u, eu, tc, rfl, htc⟩ := Paired.at' hpw et
    obtain ⟨u2, eu2, ra, rfl, hra⟩ := Paired.at' hp er
    have oe : othE es k p = e.1 + e.2 - (p : Int) := by
      unfold othE
      rw [List.getD_eq_getElem?_getD, Int.toNat_natCast, ee]
      rfl
    have ep : t.one + t.other - othE es k p = (p : Nat) := by rw [oe]; omega
    have hil := (List.getElem?_eq_some_iff.mp ei).1
    have hie := (List.getElem?_eq_some_iff.mp ei).2
    have ndr := od.nd row (List.mem_of_getElem? er)
    have lrow := od.row_len (List.mem_of_getElem? er)
    refine ⟨.ref wa, rfl, wa, _, 1, .ref wb, rfl, rfl, SqT.of hwa, rfl, .ref sa, rfl, sa, _, 0, .int (k : Nat), rfl, rfl, SqT.of hst, rfl, wb, ws, (k : Nat), .ref tc, rfl, rfl, SqT.of hwb, atI_nat eu, tc, _, rfl, SqT.of htc, rfl, _, _, rfl, _, _, rfl, _, _, rfl, rfl, ?_⟩
    refine ⟨.int t.one, rfl, .int t.other, rfl, _, _, rfl, rfl, .ref sa, rfl, sa, _, 1, .int (othE es k p), rfl, rfl, SqT.of hst, rfl, _, _, rfl, rfl, ?_⟩
    refine ⟨.ref o, rfl, .int (t.one + t.other - othE es k p), rfl, o, us, t.one + t.other - othE es k p, .ref ra, rfl, rfl, SqT.of ho, by rw [ep]; exact atI_nat eu2, ?_⟩
    refine ⟨.ref ra, rfl, ra, _, rfl, .inr (SqT.of hra), _, rfl, by omega, by rw [List.length_map]; omega, ?_⟩
    rw [List.length_map, Int.toNat_natCast]
    refine for_range (lo := 0) (n := row.length) (fun j σ' H' => ∃ y8 : Option V, σ' = [some (.ref wa), some (.ref o), some (.ref sa), some (.int t.one), some (.int t.other), some (.str (kindS t.foe)), some (.int (t.one + t.other - othE es k p)), some (.ref ra), y8] ∧ j ≤ (i0 + 1) % row.length ∧ Same H H') ⟨none, rfl, Nat.zero_le _, Same.refl _⟩ ?_ ?_
    · rintro j σ' H2 hj ⟨y8, rfl, jl, s2⟩
      obtain ⟨j', hj', ej'⟩ : ∃ j', j' < row.length ∧ atI (row.map V.int) ((0 : Int) + (j : Nat) - 1) = some (.int (row.getD j' 0)) ∧ (j = (i0 + 1) % row.length ↔ j' = i0) := by
        cases j with
        | zero =>
          refine ⟨row.length - 1, by omega, atI_last (xs := row.map V.int) (by rw [List.length_map, List.getElem?_map, List.getElem?_eq_getElem (show row.length - 1 < row.length by omega), List.getD_eq_getElem?_getD, List.getElem?_eq_getElem (show row.length - 1 < row.length by omega)]; rfl), ?_⟩
          constructor
          · intro z
            by_cases h : i0 + 1 < row.length
            · rw [Nat.mod_eq_of_lt h] at z; omega
            · omega
          · intro z
            rw [show i0 + 1 = row.length by omega, Nat.mod_self]
        | succ j =>
          refine ⟨j, by omega, ?_, ?_⟩
          · rw [show (0 : Int) + ((j + 1 : Nat) : Int) - 1 = (j : Nat) by omega]
            exact atI_nat (by rw [List.getElem?_map, List.getElem?_eq_getElem (show j < row.length by omega), List.getD_eq_getElem?_getD, List.getElem?_eq_getElem (show j < row.length by omega)]; rfl)
          · constructor
            · intro z
              by_cases h : i0 + 1 < row.length
              · rw [Nat.mod_eq_of_lt h] at z; omega
              · rw [show i0 + 1 = row.length by omega, Nat.mod_self] at z; omega
            · intro z
              rw [← z, Nat.mod_eq_of_lt hj]
      refine ⟨.ref ra, rfl, .int (0 + (j : Nat)), rfl, _, _, rfl, rfl, ra, _, (0 : Int) + (j : Nat) - 1, .int (row.getD j' 0), rfl, rfl, SqT.of (s2 _ _ hra), ej'.1, .ref sa, rfl, sa, _, 0, .int (k : Nat), rfl, rfl, SqT.of (s2 _ _ hst), rfl, rfl, _, rfl, ?_⟩
      rw [dec_intF]
      have gj : row.getD j' 0 = row[j'] := by rw [List.getD_eq_getElem?_getD, List.getElem?_eq_getElem hj']; rfl
      by_cases c : j' = i0
      · have hjm := ej'.2.mpr c
        rw [decide_eq_true (show row.getD j' 0 = ((k : Nat) : Int) by rw [gj, ← hie]; congr 1)]
        have gm : row.getD ((i0 + 1) % row.length) 0 = row[j] := by rw [← hjm, List.getD_eq_getElem?_getD, List.getElem?_eq_getElem hj]; rfl
        refine ⟨.ref ra, rfl, .int (0 + (j : Nat)), rfl, ra, _, (0 : Int) + (j : Nat), .int row[j], rfl, rfl, SqT.of (s2 _ _ hra), by rw [Int.zero_add]; exact atI_nat (by rw [List.getElem?_map, List.getElem?_eq_getElem hj]; rfl), .int (t.one + t.other - othE es k p), rfl, by show 2 ≤ sizeLine; decide, fun r nr => ?_⟩
        refine q r _ (s2.trans (same_new nr)) ?_
        rw [gm, ep]
        exact upd_same
      · rw [decide_eq_false (show ¬ row.getD j' 0 = ((k : Nat) : Int) from fun z => by
          rw [gj, ← hie] at z
          rcases Nat.lt_or_gt_of_ne c with lt | lt
          · exact List.pairwise_iff_getElem.mp ndr j' i0 hj' hil lt z
          · exact List.pairwise_iff_getElem.mp ndr i0 j' hil hj' lt z.symm)]
        exact ⟨_, rfl, by have := fun z => c (ej'.2.mp z); omega, s2⟩
    · rintro σ' H2 ⟨y8, rfl, jl, s2⟩
      have := Nat.mod_lt (i0 + 1) (show 0 < row.length by omega)
      omega
end
/-! ### flats: ways round (mathematics) -/
theorem sub_lenG {α : Type} [DecidableEq α] : ∀ {xs ys : List α}, xs.Nodup → (∀ x ∈ xs, x ∈ ys) → xs.length ≤ ys.length
  | [], _, _, _ => Nat.zero_le _
  | x :: xs, ys, nd, h => by
    have nd' := List.nodup_cons.mp nd
    have hx := h x List.mem_cons_self
    have := sub_lenG (ys := ys.erase x) nd'.2 fun y hy => (List.mem_erase_of_ne (show y ≠ x from fun z => nd'.1 (z ▸ hy))).mpr (h y (List.mem_cons_of_mem _ hy))
    rw [List.length_erase_of_mem hx] at this
    have := List.length_pos_of_mem hx
    rw [List.length_cons]
    omega
def itF (f : Int × Int → Int × Int) : Nat → Int × Int → Int × Int
  | 0, x => x
  | n + 1, x => f (itF f n x)
def nxB (bs : List St2) (x : Int × Int) : Int × Int := ((bs.find? fun b => decide (b.1 = x)).map (·.2)).getD x
theorem nxB_mem {bs : List St2} {x : Int × Int} (h : x ∈ bs.map (·.1)) : (x, nxB bs x) ∈ bs := by
  unfold nxB
  cases e : bs.find? fun b => decide (b.1 = x) with
  | some b =>
    have h1 := List.mem_of_find?_eq_some e
    have h2 : b.1 = x := of_decide_eq_true (List.find?_some (p := fun b : St2 => decide (b.1 = x)) e)
    show (x, b.2) ∈ bs
    rw [← h2]
    exact h1
  | none =>
    obtain ⟨b, hb, rfl⟩ := List.mem_map.mp h
    have := List.find?_eq_none.mp e b hb
    simp at this
structure Rnd (bs : List St2) : Prop where
  nk : (bs.map (·.1)).Nodup
  nv : (bs.map (·.2)).Nodup
  cl : ∀ b ∈ bs, b.2 ∈ bs.map (·.1)
theorem nd_inj {α β : Type} {f : α → β} : ∀ {xs : List α}, (xs.map f).Nodup → ∀ {a b : α}, a ∈ xs → b ∈ xs → f a = f b → a = b
  | x :: xs, nd, a, b, ha, hb, e => by
    rw [List.map_cons] at nd
    have nd' := List.nodup_cons.mp nd
    rcases List.mem_cons.mp ha with e1 | ha'
    · rcases List.mem_cons.mp hb with e2 | hb'
      · rw [e1, e2]
      · exact (nd'.1 (List.mem_map.mpr ⟨b, hb', by rw [← e, e1]⟩)).elim
    · rcases List.mem_cons.mp hb with e2 | hb'
      · exact (nd'.1 (List.mem_map.mpr ⟨a, ha', by rw [e, e2]⟩)).elim
      · exact nd_inj nd'.2 ha' hb' e
theorem Rnd.inj {bs : List St2} (r : Rnd bs) {x y : Int × Int} (hx : x ∈ bs.map (·.1)) (hy : y ∈ bs.map (·.1)) (e : nxB bs x = nxB bs y) : x = y := by
  have := nd_inj r.nv (nxB_mem hx) (nxB_mem hy) e
  exact (Prod.mk.injEq .. ▸ this).1
theorem Rnd.key {bs : List St2} (r : Rnd bs) {x : Int × Int} (hx : x ∈ bs.map (·.1)) : nxB bs x ∈ bs.map (·.1) := r.cl _ (nxB_mem hx)
theorem Rnd.it {bs : List St2} (r : Rnd bs) {x : Int × Int} (hx : x ∈ bs.map (·.1)) : ∀ n, itF (nxB bs) n x ∈ bs.map (·.1)
  | 0 => hx
  | n + 1 => r.key (r.it hx n)
theorem Rnd.back {bs : List St2} (r : Rnd bs) {x : Int × Int} (hx : x ∈ bs.map (·.1)) (d : Nat) : ∀ i, itF (nxB bs) (d + i) x = itF (nxB bs) i x → itF (nxB bs) d x = x
  | 0, e => e
  | i + 1, e => r.back hx d i (r.inj (r.it hx _) (r.it hx _) e)
theorem Rnd.ret {bs : List St2} (r : Rnd bs) {s : Int × Int} (hs : s ∈ bs.map (·.1)) : ∃ c, 1 ≤ c ∧ c ≤ bs.length ∧ itF (nxB bs) c s = s := by
  refine Classical.byContradiction fun no => ?_
  have nd : ((List.range (bs.length + 1)).map fun n => itF (nxB bs) n s).Nodup := by
    rw [List.nodup_iff_pairwise_ne, List.pairwise_map]
    refine (List.pairwise_lt_range).imp_of_mem fun {a b} ha hb lt e => no ⟨b - a, by omega, by have := List.mem_range.mp hb; omega, r.back hs (b - a) a ?_⟩
    rw [show b - a + a = b by omega]
    exact e.symm
  have := sub_lenG nd fun y hy => by
    obtain ⟨n, _, rfl⟩ := List.mem_map.mp hy
    exact r.it hs n
  rw [List.length_map, List.length_range, List.length_map] at this
  omega
theorem least_of {p : Nat → Prop} : ∀ (m c : Nat), c ≤ m → p c → ∃ k, k ≤ c ∧ p k ∧ ∀ j, j < k → ¬ p j
  | m, c, hm, h => by
    by_cases e : ∃ j, j < c ∧ p j
    · obtain ⟨j, jl, hj⟩ := e
      cases m with
      | zero => omega
      | succ m =>
        obtain ⟨k, k1, k2, k3⟩ := least_of m j (by omega) hj
        exact ⟨k, by omega, k2, k3⟩
    · exact ⟨c, Nat.le_refl _, h, fun j jl hj => e ⟨j, jl, hj⟩⟩
theorem Rnd.cyc {bs : List St2} (r : Rnd bs) {s : Int × Int} (hs : s ∈ bs.map (·.1)) : ∃ c, 1 ≤ c ∧ c ≤ bs.length ∧ itF (nxB bs) c s = s ∧ (∀ j, 0 < j → j < c → itF (nxB bs) j s ≠ s) ∧ Cyc bs s ((List.range c).map fun n => itF (nxB bs) n s) := by
  obtain ⟨c0, c1, c2, c3⟩ := r.ret hs
  obtain ⟨c, k1, ⟨k2, k3⟩, k4⟩ := least_of (p := fun c => 1 ≤ c ∧ itF (nxB bs) c s = s) c0 c0 (Nat.le_refl _) ⟨c1, c3⟩
  have at' : ∀ (i : Nat) (x : Int × Int), ((List.range c).map fun n => itF (nxB bs) n s)[i]? = some x → i < c ∧ x = itF (nxB bs) i s := fun i x e => by
    have hl := (List.getElem?_eq_some_iff.mp e).1
    rw [List.length_map, List.length_range] at hl
    rw [List.getElem?_map, List.getElem?_range hl] at e
    exact ⟨hl, (Option.some.inj e).symm⟩
  refine ⟨c, k2, by omega, k3, fun j j0 jc z => k4 j jc ⟨by omega, z⟩, ?_, fun i x y ex ey => ?_, fun x ex => ?_, fun i x i0 ex z => ?_⟩
  · rw [List.getElem?_map, List.getElem?_range (by omega)]
    rfl
  · obtain ⟨_, rfl⟩ := at' i x ex
    obtain ⟨_, rfl⟩ := at' _ y ey
    exact nxB_mem (r.it hs i)
  · obtain ⟨h, rfl⟩ := at' _ x ex
    rw [List.length_map, List.length_range] at *
    have := nxB_mem (r.it hs (c - 1))
    have e : nxB bs (itF (nxB bs) (c - 1) s) = s := by
      show itF (nxB bs) (c - 1 + 1) s = s
      rw [show c - 1 + 1 = c by omega, k3]
    rw [e] at this
    exact this
  · obtain ⟨h, rfl⟩ := at' _ x ex
    exact k4 i h ⟨by omega, z⟩
/-- the steps of orders go round -/
theorem stepsB_nk {rs : List (List Int)} {es : List (Int × Int)} (od : Ord rs es) : ∀ m, m ≤ rs.length → ((stepsB es rs m).map (·.1)).Nodup
  | 0, _ => List.nodup_nil
  | m + 1, h => by
    have er := List.getElem?_eq_getElem (show m < rs.length by omega)
    have eg : rs.getD m [] = rs[m] := by rw [List.getD_eq_getElem?_getD, er]; rfl
    have nd := od.nd _ (List.mem_of_getElem? er)
    have go : ∀ j, j ≤ rs[m].length → ((stepsB es rs m ++ stepR es m rs[m] j).map (·.1)).Nodup := fun j => by
      induction j with
      | zero =>
        intro _
        rw [show stepR es m rs[m] 0 = [] from rfl, List.append_nil]
        exact stepsB_nk od m (by omega)
      | succ j ih =>
        intro hj
        rw [stepR_succ, ← List.append_assoc, List.map_append]
        refine List.nodup_append.mpr ⟨ih (by omega), by simp, fun a ha b hb e => ?_⟩
        rw [List.map_cons, List.map_nil, List.mem_singleton] at hb
        subst hb
        obtain ⟨c, hc, rfl⟩ := List.mem_map.mp ha
        exact step_new er nd (by omega) c hc e
    rw [stepsB_succ, eg]
    exact go _ (Nat.le_refl _)
/-! ### flats: the steps of orders go round (mathematics) -/
theorem stepR_memI {es : List (Int × Int)} {p : Nat} {row : List Int} {m : Nat} {b : St2} : b ∈ stepR es p row m ↔ ∃ i, i < m ∧ b = ((row.getD i 0, othE es (row.getD i 0) p), (row.getD ((i + 1) % row.length) 0, (p : Int))) := by
  unfold stepR
  rw [List.mem_map]
  exact ⟨fun ⟨i, hi, e⟩ => ⟨i, List.mem_range.mp hi, e.symm⟩, fun ⟨i, hi, e⟩ => ⟨i, List.mem_range.mpr hi, e.symm⟩⟩
theorem stepsB_mem {es : List (Int × Int)} {rs : List (List Int)} {m : Nat} {b : St2} : b ∈ stepsB es rs m ↔ ∃ p, p < m ∧ b ∈ stepR es p (rs.getD p []) (rs.getD p []).length := by
  unfold stepsB
  rw [List.mem_flatMap]
  exact ⟨fun ⟨p, hp, e⟩ => ⟨p, List.mem_range.mp hp, e⟩, fun ⟨p, hp, e⟩ => ⟨p, List.mem_range.mpr hp, e⟩⟩
theorem getD_inj {row : List Int} (nd : row.Nodup) {i j : Nat} (hi : i < row.length) (hj : j < row.length) (e : row.getD i 0 = row.getD j 0) : i = j := by
  rw [List.getD_eq_getElem?_getD, List.getD_eq_getElem?_getD, List.getElem?_eq_getElem hi, List.getElem?_eq_getElem hj] at e
  refine Classical.byContradiction fun ne => ?_
  rcases Nat.lt_or_gt_of_ne ne with lt | lt
  · exact List.pairwise_iff_getElem.mp nd i j hi hj lt e
  · exact List.pairwise_iff_getElem.mp nd j i hj hi lt e.symm
theorem mod_inj {n i j : Nat} (hi : i < n) (hj : j < n) (e : (i + 1) % n = (j + 1) % n) : i = j := by
  by_cases h1 : i + 1 < n <;> by_cases h2 : j + 1 < n
  · rw [Nat.mod_eq_of_lt h1, Nat.mod_eq_of_lt h2] at e; omega
  · rw [Nat.mod_eq_of_lt h1, show j + 1 = n by omega, Nat.mod_self] at e; omega
  · rw [Nat.mod_eq_of_lt h2, show i + 1 = n by omega, Nat.mod_self] at e; omega
  · omega
theorem stepsB_nv {rs : List (List Int)} {es : List (Int × Int)} (od : Ord rs es) : ∀ m, m ≤ rs.length → ((stepsB es rs m).map (·.2)).Nodup
  | 0, _ => List.nodup_nil
  | m + 1, h => by
    have er := List.getElem?_eq_getElem (show m < rs.length by omega)
    have eg : rs.getD m [] = rs[m] := by rw [List.getD_eq_getElem?_getD, er]; rfl
    have nd := od.nd _ (List.mem_of_getElem? er)
    have go : ∀ j, j ≤ rs[m].length → ((stepsB es rs m ++ stepR es m rs[m] j).map (·.2)).Nodup := fun j => by
      induction j with
      | zero =>
        intro _
        rw [show stepR es m rs[m] 0 = [] from rfl, List.append_nil]
        exact stepsB_nv od m (by omega)
      | succ j ih =>
        intro hj
        rw [stepR_succ, ← List.append_assoc, List.map_append]
        refine List.nodup_append.mpr ⟨ih (by omega), by simp, fun a ha b hb e => ?_⟩
        rw [List.map_cons, List.map_nil, List.mem_singleton] at hb
        subst hb
        obtain ⟨c, hc, rfl⟩ := List.mem_map.mp ha
        have e1 := (Prod.mk.injEq .. ▸ e).1
        have e2 := (Prod.mk.injEq .. ▸ e).2
        rcases List.mem_append.mp hc with z | z
        · obtain ⟨p, hp, z⟩ := stepsB_mem.mp z
          obtain ⟨i, _, rfl⟩ := stepR_memI.mp z
          have : (p : Int) = (m : Int) := e2
          omega
        · obtain ⟨i, hi, rfl⟩ := stepR_memI.mp z
          have := getD_inj nd (Nat.mod_lt _ (by omega)) (Nat.mod_lt _ (by omega)) e1
          have := mod_inj (by omega) (by omega) this
          omega
    rw [stepsB_succ, eg]
    exact go _ (Nat.le_refl _)
/-- which steps there are: each tie towards each of its ends -/
theorem stepsB_key {rs : List (List Int)} {es : List (Int × Int)} (od : Ord rs es) {x : Int × Int} : x ∈ (stepsB es rs rs.length).map (·.1) ↔ ∃ (k : Nat) (e : Int × Int), es[k]? = some e ∧ x.1 = (k : Int) ∧ (x.2 = e.1 ∨ x.2 = e.2) := by
  have oth : ∀ {k : Nat} {e : Int × Int} {p : Int}, es[k]? = some e → othE es (k : Int) p = e.1 + e.2 - p := fun {k e p} ee => by
    unfold othE
    rw [List.getD_eq_getElem?_getD, Int.toNat_natCast, ee]
    rfl
  constructor
  · intro h
    obtain ⟨b, hb, rfl⟩ := List.mem_map.mp h
    obtain ⟨p, hp, z⟩ := stepsB_mem.mp hb
    have er := List.getElem?_eq_getElem hp
    have eg : rs.getD p [] = rs[p] := by rw [List.getD_eq_getElem?_getD, er]; rfl
    rw [eg] at z
    obtain ⟨i, hi, rfl⟩ := stepR_memI.mp z
    have hm : rs[p].getD i 0 ∈ rs[p] := by
      rw [List.getD_eq_getElem?_getD, List.getElem?_eq_getElem hi]
      exact List.getElem_mem _
    obtain ⟨k, e, ek, ee, pe⟩ := (od.mem p _ er _).mp hm
    refine ⟨k, e, ee, ek, ?_⟩
    show othE es (rs[p].getD i 0) p = e.1 ∨ othE es (rs[p].getD i 0) p = e.2
    rw [ek, oth ee]
    omega
  · rintro ⟨k, e, ee, e1, e2⟩
    have ends := od.ends e (List.mem_of_getElem? ee)
    obtain ⟨p, hp, ep⟩ : ∃ p : Nat, p < rs.length ∧ (p : Int) = e.1 + e.2 - x.2 := ⟨(e.1 + e.2 - x.2).toNat, by omega, by omega⟩
    have er := List.getElem?_eq_getElem hp
    have hm : ((k : Nat) : Int) ∈ rs[p] := (od.mem p _ er _).mpr ⟨k, e, rfl, ee, by omega⟩
    obtain ⟨i, hi, ei⟩ := List.getElem_of_mem hm
    have eg : rs.getD p [] = rs[p] := by rw [List.getD_eq_getElem?_getD, er]; rfl
    refine List.mem_map.mpr ⟨_, stepsB_mem.mpr ⟨p, hp, stepR_memI.mpr ⟨i, by rw [eg]; exact hi, rfl⟩⟩, ?_⟩
    have gi : (rs.getD p []).getD i 0 = ((k : Nat) : Int) := by rw [eg, List.getD_eq_getElem?_getD, List.getElem?_eq_getElem hi, ei]; rfl
    show ((rs.getD p []).getD i 0, othE es ((rs.getD p []).getD i 0) p) = x
    rw [gi, oth ee, ep]
    refine Prod.ext e1.symm ?_
    show e.1 + e.2 - (e.1 + e.2 - x.2) = x.2
    omega
theorem stepsB_rnd {rs : List (List Int)} {es : List (Int × Int)} (od : Ord rs es) : Rnd (stepsB es rs rs.length) := by
  refine ⟨stepsB_nk od _ (Nat.le_refl _), stepsB_nv od _ (Nat.le_refl _), fun b hb => ?_⟩
  obtain ⟨p, hp, z⟩ := stepsB_mem.mp hb
  have er := List.getElem?_eq_getElem hp
  have eg : rs.getD p [] = rs[p] := by rw [List.getD_eq_getElem?_getD, er]; rfl
  rw [eg] at z
  obtain ⟨i, hi, rfl⟩ := stepR_memI.mp z
  have hm : rs[p].getD ((i + 1) % rs[p].length) 0 ∈ rs[p] := by
    rw [List.getD_eq_getElem?_getD, List.getElem?_eq_getElem (Nat.mod_lt _ (by omega))]
    exact List.getElem_mem _
  obtain ⟨k, e, ek, ee, pe⟩ := (od.mem p _ er _).mp hm
  exact (stepsB_key od).mpr ⟨k, e, ee, ek, by show (p : Int) = e.1 ∨ (p : Int) = e.2; omega⟩
/-! ### faces as ways round (mathematics) -/
abbrev Dt := Int × Int
def Wk (R : Dt → Dt → Prop) : Dt → List Dt → Dt → Prop
  | a, [], b => R a b
  | a, c :: cs, b => R a c ∧ Wk R c cs b
theorem Wk.app {R : Dt → Dt → Prop} {y b : Dt} {ys : List Dt} : ∀ {xs : List Dt} {a : Dt}, Wk R a (xs ++ y :: ys) b ↔ Wk R a xs y ∧ Wk R y ys b
  | [], _ => Iff.rfl
  | c :: cs, a => ⟨fun h => ⟨⟨h.1, (Wk.app.mp h.2).1⟩, (Wk.app.mp h.2).2⟩, fun h => ⟨h.1.1, Wk.app.mpr ⟨h.1.2, h.2⟩⟩⟩
theorem Wk.imp {R R' : Dt → Dt → Prop} {b b' : Dt} (e : ∀ x, R x b → R' x b') : ∀ {xs : List Dt} {a : Dt}, Wk R a xs b → (∀ x y, y ∈ xs → R x y → R' x y) → Wk R' a xs b'
  | [], a, h, _ => e a h
  | c :: cs, a, h, k => ⟨k a c List.mem_cons_self h.1, Wk.imp e h.2 fun x y hy => k x y (List.mem_cons_of_mem _ hy)⟩
def CyR (R : Dt → Dt → Prop) : List Dt → Prop
  | [] => False
  | x :: xs => Wk R x xs x
theorem CyR.turn {R : Dt → Dt → Prop} {f : List Dt} {y : Dt} (h : CyR R f) (hy : y ∈ f) : ∃ ys, CyR R (y :: ys) ∧ (y :: ys).Perm f := by
  obtain ⟨as, bs, rfl⟩ := List.append_of_mem hy
  cases as with
  | nil => exact ⟨bs, h, List.Perm.refl _⟩
  | cons x as =>
    have h' := Wk.app.mp (show Wk R x (as ++ y :: bs) x from h)
    exact ⟨bs ++ x :: as, Wk.app.mpr ⟨h'.2, h'.1⟩, List.perm_append_comm (l₁ := y :: bs) (l₂ := x :: as)⟩
theorem Wk.in' {R : Dt → Dt → Prop} {g : List Dt} (fn : ∀ x y y', R x y → R x y' → y = y') (cl : ∀ x ∈ g, ∃ y ∈ g, R x y) {b : Dt} : ∀ {xs : List Dt} {a : Dt}, Wk R a xs b → a ∈ g → ∀ z ∈ xs, z ∈ g
  | c :: cs, a, h, ha, z, hz => by
    obtain ⟨y, hy, r⟩ := cl a ha
    have : c ∈ g := fn _ _ _ r h.1 ▸ hy
    rcases List.mem_cons.mp hz with e | hz'
    · rw [e]; exact this
    · exact Wk.in' fn cl h.2 this z hz'
theorem CyR.next {R : Dt → Dt → Prop} {f : List Dt} (h : CyR R f) : ∀ x ∈ f, ∃ y ∈ f, R x y := fun x hx => by
  obtain ⟨ys, c, p⟩ := h.turn hx
  cases ys with
  | nil => exact ⟨x, hx, c⟩
  | cons y ys => exact ⟨y, p.mem_iff.mp (List.mem_cons_of_mem _ List.mem_cons_self), c.1⟩
theorem CyR.sub {R : Dt → Dt → Prop} {f g : List Dt} (fn : ∀ x y y', R x y → R x y' → y = y') (hf : CyR R f) (hg : CyR R g) {x : Dt} (xf : x ∈ f) (xg : x ∈ g) : ∀ z ∈ f, z ∈ g := fun z hz => by
  obtain ⟨ys, c, p⟩ := hf.turn xf
  rcases List.mem_cons.mp (p.mem_iff.mpr hz) with e | hz'
  · rw [e]; exact xg
  · exact Wk.in' fn hg.next c xg z hz'
structure Dec (R : Dt → Dt → Prop) (D : Dt → Prop) (fs : List (List Dt)) : Prop where
  cy : ∀ f ∈ fs, CyR R f
  nd : ∀ f ∈ fs, f.Nodup
  dj : fs.Pairwise fun f g => ∀ x ∈ f, x ∉ g
  all : ∀ x, D x ↔ ∃ f ∈ fs, x ∈ f
theorem Dec.perm {R : Dt → Dt → Prop} {D : Dt → Prop} {fs gs : List (List Dt)} (h : Dec R D fs) (p : fs.Perm gs) : Dec R D gs :=
  ⟨fun f hf => h.cy f (p.mem_iff.mpr hf), fun f hf => h.nd f (p.mem_iff.mpr hf), p.pairwise h.dj (fun k x hx hy => k x hy hx), fun x => (h.all x).trans ⟨fun ⟨f, hf, k⟩ => ⟨f, p.mem_iff.mp hf, k⟩, fun ⟨f, hf, k⟩ => ⟨f, p.mem_iff.mpr hf, k⟩⟩⟩
theorem Dec.one {R : Dt → Dt → Prop} {D : Dt → Prop} : ∀ {fs : List (List Dt)}, Dec R D fs → ∀ {f g : List Dt}, f ∈ fs → g ∈ fs → ∀ {x : Dt}, x ∈ f → x ∈ g → f = g := fun {fs} h {f g} hf hg {x} xf xg => by
  have := h.dj
  clear h
  induction fs with
  | nil => cases hf
  | cons k ks ih =>
    have pc := List.pairwise_cons.mp this
    rcases List.mem_cons.mp hf with e1 | hf' <;> rcases List.mem_cons.mp hg with e2 | hg'
    · rw [e1, e2]
    · exact (pc.1 g hg' x (e1 ▸ xf) xg).elim
    · exact (pc.1 f hf' x (e2 ▸ xg) xf).elim
    · exact ih hf' hg' pc.2
theorem CyR.ne {R : Dt → Dt → Prop} {f : List Dt} (h : CyR R f) : ∃ x, x ∈ f := by
  cases f with
  | nil => exact h.elim
  | cons x xs => exact ⟨x, List.mem_cons_self⟩
theorem Dec.ndf {R : Dt → Dt → Prop} {D : Dt → Prop} {fs : List (List Dt)} (h : Dec R D fs) : fs.Nodup := by
  rw [List.nodup_iff_pairwise_ne]
  refine h.dj.imp_of_mem fun {f g} hf _ k e => ?_
  obtain ⟨x, hx⟩ := (h.cy f hf).ne
  exact k x hx (e ▸ hx)
theorem inj_len {α β : Type} [DecidableEq β] {T : α → β → Prop} {fs : List α} {gs : List β} (nd : fs.Nodup) (h : ∀ f ∈ fs, ∃ g ∈ gs, T f g) (inj : ∀ f ∈ fs, ∀ f' ∈ fs, ∀ g, T f g → T f' g → f = f') : fs.length ≤ gs.length := by
  classical
  let φ : α → Option β := fun f => if k : ∃ g ∈ gs, T f g then some k.choose else none
  have hφ : ∀ f ∈ fs, ∃ g ∈ gs, T f g ∧ φ f = some g := fun f hf => by
    have k := h f hf
    exact ⟨k.choose, k.choose_spec.1, k.choose_spec.2, dif_pos k⟩
  have ndm : (fs.map φ).Nodup := by
    rw [List.nodup_iff_pairwise_ne, List.pairwise_map]
    refine (List.nodup_iff_pairwise_ne.mp nd).imp_of_mem fun {f f'} hf hf' ne e => ne ?_
    obtain ⟨g, _, t, eg⟩ := hφ f hf
    obtain ⟨g', _, t', eg'⟩ := hφ f' hf'
    have : g = g' := Option.some.inj (eg.symm.trans (e.trans eg'))
    exact inj f hf f' hf' g t (this ▸ t')
  have := sub_lenG ndm (ys := gs.map some) fun y hy => by
    obtain ⟨f, hf, rfl⟩ := List.mem_map.mp hy
    obtain ⟨g, hg, _, eg⟩ := hφ f hf
    exact List.mem_map.mpr ⟨g, hg, eg.symm⟩
  rwa [List.length_map, List.length_map] at this
theorem Dec.le {R : Dt → Dt → Prop} {D : Dt → Prop} {fs gs : List (List Dt)} (fn : ∀ x y y', R x y → R x y' → y = y') (h : Dec R D fs) (k : Dec R D gs) (P : List Dt → Bool) (hP : ∀ f ∈ fs, ∀ g ∈ gs, (∃ x, x ∈ f ∧ x ∈ g) → P f = true → P g = true) : fs.countP P ≤ gs.countP P := by
  rw [List.countP_eq_length_filter, List.countP_eq_length_filter]
  refine inj_len (T := fun f g => g ∈ gs ∧ ∃ x, x ∈ f ∧ x ∈ g) (h.ndf.filter _) (fun f hf => ?_) fun f hf f' hf' g ⟨hg, x, xf, xg⟩ ⟨_, y, yf, yg⟩ => ?_
  · have hf' := List.mem_filter.mp hf
    obtain ⟨x, hx⟩ := (h.cy f hf'.1).ne
    obtain ⟨g, hg, xg⟩ := (k.all x).mp ((h.all x).mpr ⟨f, hf'.1, hx⟩)
    exact ⟨g, List.mem_filter.mpr ⟨hg, hP f hf'.1 g hg ⟨x, hx, xg⟩ hf'.2⟩, hg, x, hx, xg⟩
  · have cf := List.mem_filter.mp hf
    have cf' := List.mem_filter.mp hf'
    exact h.one cf.1 cf'.1 ((k.cy g hg).sub fn (h.cy f cf.1) xg xf y yg) yf
/-! ### faces as ways round: a tie more -/
theorem Dec.front {R : Dt → Dt → Prop} {D : Dt → Prop} {fs : List (List Dt)} (h : Dec R D fs) {y : Dt} (hy : D y) : ∃ (f : List Dt) (ys : List Dt) (rest : List (List Dt)), fs.Perm (f :: rest) ∧ f.Perm (y :: ys) ∧ Dec R D ((y :: ys) :: rest) := by
  obtain ⟨f, hf, yf⟩ := (h.all y).mp hy
  obtain ⟨ys, c, p⟩ := (h.cy f hf).turn yf
  obtain ⟨as, bs, rfl⟩ := List.append_of_mem hf
  have pm : (as ++ f :: bs).Perm (f :: (as ++ bs)) := List.perm_middle
  have h1 := h.perm pm
  refine ⟨f, ys, as ++ bs, pm, p.symm, ⟨fun g hg => ?_, fun g hg => ?_, ?_, fun x => ?_⟩⟩
  · rcases List.mem_cons.mp hg with e | hg'
    · rw [e]; exact c
    · exact h1.cy g (List.mem_cons_of_mem _ hg')
  · rcases List.mem_cons.mp hg with e | hg'
    · rw [e]; exact p.nodup_iff.mpr (h1.nd f List.mem_cons_self)
    · exact h1.nd g (List.mem_cons_of_mem _ hg')
  · have := List.pairwise_cons.mp h1.dj
    exact List.pairwise_cons.mpr ⟨fun g hg x hx => this.1 g hg x (p.mem_iff.mp hx), this.2⟩
  · refine (h1.all x).trans ⟨fun ⟨g, hg, k⟩ => ?_, fun ⟨g, hg, k⟩ => ?_⟩
    · rcases List.mem_cons.mp hg with e | hg'
      · exact ⟨_, List.mem_cons_self, p.mem_iff.mpr (e ▸ k)⟩
      · exact ⟨g, List.mem_cons_of_mem _ hg', k⟩
    · rcases List.mem_cons.mp hg with e | hg'
      · exact ⟨f, List.mem_cons_self, p.mem_iff.mp (e ▸ k)⟩
      · exact ⟨g, List.mem_cons_of_mem _ hg', k⟩
section
variable {R R' : Dt → Dt → Prop} {D D' : Dt → Prop} {f : List Dt} {rest : List (List Dt)} {dp dq m1 m2 : Dt}
theorem CyR.keep {g : List Dt} (h : CyR R g) (k : ∀ x y, y ∈ g → R x y → R' x y) : CyR R' g := by
  cases g with
  | nil => exact h
  | cons x xs => exact Wk.imp (fun a r => k a x List.mem_cons_self r) h fun a b hb r => k a b (List.mem_cons_of_mem _ hb) r
/-- a tie between two corners of one face: the face becomes two. -/
theorem Dec.split {as bs : List Dt} (h : Dec R D ((dp :: (as ++ dq :: bs)) :: rest)) (ndp : ¬ D m1) (ndq : ¬ D m2) (m12 : m1 ≠ m2) (keep : ∀ x y, R x y → y ≠ dp → y ≠ dq → R' x y) (r1 : ∀ x, R x dp → R' x m1) (r2 : R' m1 dq) (r3 : ∀ x, R x dq → R' x m2) (r4 : R' m2 dp) (hD : ∀ x, D' x ↔ D x ∨ x = m1 ∨ x = m2) : Dec R' D' ((dp :: (as ++ [m2])) :: (dq :: (bs ++ [m1])) :: rest) := by
  have c0 : Wk R dp (as ++ dq :: bs) dp := h.cy _ List.mem_cons_self
  have cw := Wk.app.mp c0
  have n0 := h.nd _ List.mem_cons_self
  have n1 := List.nodup_cons.mp n0
  have n2 := List.nodup_append.mp n1.2
  have n3 := List.nodup_cons.mp n2.2.1
  have pd : dp ≠ dq := fun e => n1.1 (e ▸ List.mem_append_right _ List.mem_cons_self)
  have pa : dp ∉ as := fun e => n1.1 (List.mem_append_left _ e)
  have pb : dp ∉ bs := fun e => n1.1 (List.mem_append_right _ (List.mem_cons_of_mem _ e))
  have qa : dq ∉ as := fun e => n2.2.2 dq e dq List.mem_cons_self rfl
  have dj := List.pairwise_cons.mp h.dj
  have inD : ∀ g ∈ (dp :: (as ++ dq :: bs)) :: rest, ∀ x ∈ g, D x := fun g hg x hx => (h.all x).mpr ⟨g, hg, hx⟩
  have a0 : ∀ x ∈ as, D x := fun x hx => inD _ List.mem_cons_self x (List.mem_cons_of_mem _ (List.mem_append_left _ hx))
  have b0 : ∀ x ∈ bs, D x := fun x hx => inD _ List.mem_cons_self x (List.mem_cons_of_mem _ (List.mem_append_right _ (List.mem_cons_of_mem _ hx)))
  have p0 : D dp := inD _ List.mem_cons_self dp List.mem_cons_self
  have q0 : D dq := inD _ List.mem_cons_self dq (List.mem_cons_of_mem _ (List.mem_append_right _ List.mem_cons_self))
  have mem1 : ∀ x, x ∈ dp :: (as ++ [m2]) ↔ x = dp ∨ x ∈ as ∨ x = m2 := fun x => by rw [List.mem_cons, List.mem_append, List.mem_singleton]
  have mem2 : ∀ x, x ∈ dq :: (bs ++ [m1]) ↔ x = dq ∨ x ∈ bs ∨ x = m1 := fun x => by rw [List.mem_cons, List.mem_append, List.mem_singleton]
  have mem0 : ∀ x, x ∈ dp :: (as ++ dq :: bs) ↔ x = dp ∨ x ∈ as ∨ x = dq ∨ x ∈ bs := fun x => by rw [List.mem_cons, List.mem_append, List.mem_cons]
  refine ⟨fun g hg => ?_, fun g hg => ?_, ?_, fun x => ?_⟩
  · rcases List.mem_cons.mp hg with e | hg
    · rw [e]
      exact Wk.app.mpr ⟨Wk.imp r3 cw.1 fun x y hy r => keep x y r (fun z => pa (z ▸ hy)) fun z => qa (z ▸ hy), r4⟩
    rcases List.mem_cons.mp hg with e | hg
    · rw [e]
      exact Wk.app.mpr ⟨Wk.imp r1 cw.2 fun x y hy r => keep x y r (fun z => pb (z ▸ hy)) fun z => n3.1 (z ▸ hy), r2⟩
    · exact (h.cy g (List.mem_cons_of_mem _ hg)).keep fun x y hy r => keep x y r (fun z => dj.1 g hg dp List.mem_cons_self (z ▸ hy)) fun z => dj.1 g hg dq (List.mem_cons_of_mem _ (List.mem_append_right _ List.mem_cons_self)) (z ▸ hy)
  · rcases List.mem_cons.mp hg with e | hg
    · rw [e]
      refine List.nodup_cons.mpr ⟨fun z => ?_, List.nodup_append.mpr ⟨n2.1, List.nodup_cons.mpr ⟨fun z => (by cases z), List.nodup_nil⟩, fun x hx y hy e => ndq (List.mem_singleton.mp hy ▸ e ▸ a0 x hx)⟩⟩
      rcases List.mem_append.mp z with z | z
      · exact pa z
      · exact ndq (List.mem_singleton.mp z ▸ p0)
    rcases List.mem_cons.mp hg with e | hg
    · rw [e]
      refine List.nodup_cons.mpr ⟨fun z => ?_, List.nodup_append.mpr ⟨n3.2, List.nodup_cons.mpr ⟨fun z => (by cases z), List.nodup_nil⟩, fun x hx y hy e => ndp (List.mem_singleton.mp hy ▸ e ▸ b0 x hx)⟩⟩
      rcases List.mem_append.mp z with z | z
      · exact n3.1 z
      · exact ndp (List.mem_singleton.mp z ▸ q0)
    · exact h.nd g (List.mem_cons_of_mem _ hg)
  · refine List.pairwise_cons.mpr ⟨fun g hg x hx xg => ?_, List.pairwise_cons.mpr ⟨fun g hg x hx xg => ?_, dj.2⟩⟩
    · rcases List.mem_cons.mp hg with e | hg
      · rcases (mem1 x).mp hx with e1 | e1 | e1 <;> rcases (mem2 x).mp (e ▸ xg) with e2 | e2 | e2
        · exact pd (e1.symm.trans e2)
        · exact pb (e1 ▸ e2)
        · exact ndp (e2 ▸ e1.symm ▸ p0)
        · exact qa (e2 ▸ e1)
        · exact n2.2.2 x e1 x (List.mem_cons_of_mem _ e2) rfl
        · exact ndp (e2 ▸ a0 x e1)
        · exact ndq (e1 ▸ e2.symm ▸ q0)
        · exact ndq (e1 ▸ b0 x e2)
        · exact m12 (e2.symm.trans e1)
      · rcases (mem1 x).mp hx with e1 | e1 | e1
        · exact dj.1 g hg x ((mem0 x).mpr (Or.inl e1)) xg
        · exact dj.1 g hg x ((mem0 x).mpr (Or.inr (Or.inl e1))) xg
        · exact ndq (e1 ▸ inD g (List.mem_cons_of_mem _ hg) x xg)
    · rcases (mem2 x).mp hx with e1 | e1 | e1
      · exact dj.1 g hg x ((mem0 x).mpr (Or.inr (Or.inr (Or.inl e1)))) xg
      · exact dj.1 g hg x ((mem0 x).mpr (Or.inr (Or.inr (Or.inr e1)))) xg
      · exact ndp (e1 ▸ inD g (List.mem_cons_of_mem _ hg) x xg)
  · rw [hD x, h.all x]
    constructor
    · rintro (⟨g, hg, xg⟩ | e | e)
      · rcases List.mem_cons.mp hg with e | hg
        · rcases (mem0 x).mp (e ▸ xg) with e1 | e1 | e1 | e1
          · exact ⟨_, List.mem_cons_self, (mem1 x).mpr (Or.inl e1)⟩
          · exact ⟨_, List.mem_cons_self, (mem1 x).mpr (Or.inr (Or.inl e1))⟩
          · exact ⟨_, List.mem_cons_of_mem _ List.mem_cons_self, (mem2 x).mpr (Or.inl e1)⟩
          · exact ⟨_, List.mem_cons_of_mem _ List.mem_cons_self, (mem2 x).mpr (Or.inr (Or.inl e1))⟩
        · exact ⟨g, List.mem_cons_of_mem _ (List.mem_cons_of_mem _ hg), xg⟩
      · exact ⟨_, List.mem_cons_of_mem _ List.mem_cons_self, (mem2 x).mpr (Or.inr (Or.inr e))⟩
      · exact ⟨_, List.mem_cons_self, (mem1 x).mpr (Or.inr (Or.inr e))⟩
    · rintro ⟨g, hg, xg⟩
      rcases List.mem_cons.mp hg with e | hg
      · rcases (mem1 x).mp (e ▸ xg) with e1 | e1 | e1
        · exact Or.inl ⟨_, List.mem_cons_self, (mem0 x).mpr (Or.inl e1)⟩
        · exact Or.inl ⟨_, List.mem_cons_self, (mem0 x).mpr (Or.inr (Or.inl e1))⟩
        · exact Or.inr (Or.inr e1)
      rcases List.mem_cons.mp hg with e | hg
      · rcases (mem2 x).mp (e ▸ xg) with e1 | e1 | e1
        · exact Or.inl ⟨_, List.mem_cons_self, (mem0 x).mpr (Or.inr (Or.inr (Or.inl e1)))⟩
        · exact Or.inl ⟨_, List.mem_cons_self, (mem0 x).mpr (Or.inr (Or.inr (Or.inr e1)))⟩
        · exact Or.inr (Or.inl e1)
      · exact Or.inl ⟨g, List.mem_cons_of_mem _ hg, xg⟩
/-- a tie to a new place: the face of the corner grows by two steps. -/
theorem Dec.leaf {as : List Dt} (h : Dec R D ((dp :: as) :: rest)) (ndp : ¬ D m1) (ndq : ¬ D m2) (m12 : m1 ≠ m2) (keep : ∀ x y, R x y → y ≠ dp → R' x y) (r1 : ∀ x, R x dp → R' x m1) (r2 : R' m1 m2) (r4 : R' m2 dp) (hD : ∀ x, D' x ↔ D x ∨ x = m1 ∨ x = m2) : Dec R' D' ((dp :: (as ++ [m1, m2])) :: rest) := by
  have c0 : Wk R dp as dp := h.cy _ List.mem_cons_self
  have n0 := h.nd _ List.mem_cons_self
  have n1 := List.nodup_cons.mp n0
  have dj := List.pairwise_cons.mp h.dj
  have inD : ∀ g ∈ (dp :: as) :: rest, ∀ x ∈ g, D x := fun g hg x hx => (h.all x).mpr ⟨g, hg, hx⟩
  have a0 : ∀ x ∈ as, D x := fun x hx => inD _ List.mem_cons_self x (List.mem_cons_of_mem _ hx)
  have p0 : D dp := inD _ List.mem_cons_self dp List.mem_cons_self
  have mem1 : ∀ x, x ∈ dp :: (as ++ [m1, m2]) ↔ x ∈ dp :: as ∨ x = m1 ∨ x = m2 := fun x => by rw [List.mem_cons, List.mem_cons, List.mem_append, List.mem_cons, List.mem_singleton, or_assoc]
  refine ⟨fun g hg => ?_, fun g hg => ?_, ?_, fun x => ?_⟩
  · rcases List.mem_cons.mp hg with e | hg
    · rw [e]
      exact Wk.app.mpr ⟨Wk.imp r1 c0 fun x y hy r => keep x y r fun z => n1.1 (z ▸ hy), r2, r4⟩
    · exact (h.cy g (List.mem_cons_of_mem _ hg)).keep fun x y hy r => keep x y r fun z => dj.1 g hg dp List.mem_cons_self (z ▸ hy)
  · rcases List.mem_cons.mp hg with e | hg
    · rw [e]
      refine List.nodup_cons.mpr ⟨fun z => ?_, List.nodup_append.mpr ⟨n1.2, List.nodup_cons.mpr ⟨fun z => m12 (List.mem_singleton.mp z), List.nodup_cons.mpr ⟨fun z => (by cases z), List.nodup_nil⟩⟩, fun x hx y hy e => ?_⟩⟩
      · rcases List.mem_append.mp z with z | z
        · exact n1.1 z
        · rcases List.mem_cons.mp z with z | z
          · exact ndp (z ▸ p0)
          · exact ndq (List.mem_singleton.mp z ▸ p0)
      · rcases List.mem_cons.mp hy with z | z
        · exact ndp (z ▸ e ▸ a0 x hx)
        · exact ndq (List.mem_singleton.mp z ▸ e ▸ a0 x hx)
    · exact h.nd g (List.mem_cons_of_mem _ hg)
  · refine List.pairwise_cons.mpr ⟨fun g hg x hx xg => ?_, dj.2⟩
    rcases (mem1 x).mp hx with e1 | e1 | e1
    · exact dj.1 g hg x e1 xg
    · exact ndp (e1 ▸ inD g (List.mem_cons_of_mem _ hg) x xg)
    · exact ndq (e1 ▸ inD g (List.mem_cons_of_mem _ hg) x xg)
  · rw [hD x, h.all x]
    constructor
    · rintro (⟨g, hg, xg⟩ | e)
      · rcases List.mem_cons.mp hg with e | hg
        · exact ⟨_, List.mem_cons_self, (mem1 x).mpr (Or.inl (e ▸ xg))⟩
        · exact ⟨g, List.mem_cons_of_mem _ hg, xg⟩
      · exact ⟨_, List.mem_cons_self, (mem1 x).mpr (Or.inr e)⟩
    · rintro ⟨g, hg, xg⟩
      rcases List.mem_cons.mp hg with e | hg
      · rcases (mem1 x).mp (e ▸ xg) with e1 | e1
        · exact Or.inl ⟨_, List.mem_cons_self, e1⟩
        · exact Or.inr e1
      · exact Or.inl ⟨g, List.mem_cons_of_mem _ hg, xg⟩
/-- the first tie of a place: a face of two steps more. -/
theorem Dec.first {fs : List (List Dt)} (h : Dec R D fs) (ndp : ¬ D m1) (ndq : ¬ D m2) (m12 : m1 ≠ m2) (keep : ∀ x y, R x y → R' x y) (r1 : R' m1 m2) (r2 : R' m2 m1) (hD : ∀ x, D' x ↔ D x ∨ x = m1 ∨ x = m2) : Dec R' D' ([m1, m2] :: fs) := by
  have mem1 : ∀ x, x ∈ [m1, m2] ↔ x = m1 ∨ x = m2 := fun x => by rw [List.mem_cons, List.mem_singleton]
  refine ⟨fun g hg => ?_, fun g hg => ?_, List.pairwise_cons.mpr ⟨fun g hg x hx xg => ?_, h.dj⟩, fun x => ?_⟩
  · rcases List.mem_cons.mp hg with e | hg
    · rw [e]; exact ⟨r1, r2⟩
    · exact (h.cy g hg).keep fun x y _ r => keep x y r
  · rcases List.mem_cons.mp hg with e | hg
    · rw [e]; exact List.nodup_cons.mpr ⟨fun z => m12 (List.mem_singleton.mp z), List.nodup_cons.mpr ⟨fun z => (by cases z), List.nodup_nil⟩⟩
    · exact h.nd g hg
  · have dx : D x := (h.all x).mpr ⟨g, hg, xg⟩
    rcases (mem1 x).mp hx with e | e
    · exact ndp (e ▸ dx)
    · exact ndq (e ▸ dx)
  · rw [hD x, h.all x]
    constructor
    · rintro (⟨g, hg, xg⟩ | e)
      · exact ⟨g, List.mem_cons_of_mem _ hg, xg⟩
      · exact ⟨_, List.mem_cons_self, (mem1 x).mpr e⟩
    · rintro ⟨g, hg, xg⟩
      rcases List.mem_cons.mp hg with e | hg
      · exact Or.inr ((mem1 x).mp (e ▸ xg))
      · exact Or.inl ⟨g, hg, xg⟩
end
/-! ### the row of a place as a ring, and a tie put into it -/
def CS (row : List Int) (a b : Int) : Prop := ∃ i, i < row.length ∧ row[i]? = some a ∧ row[(i + 1) % row.length]? = some b
theorem rotP_len {row : List Int} {k : Nat} (hk : k ≤ row.length) : (rotP row k).length = row.length := by
  unfold rotP
  rw [List.length_append, List.length_drop, List.length_take]
  omega
theorem rotP_get {row : List Int} {k j : Nat} (hk : k ≤ row.length) (hj : j < row.length) : (rotP row k)[j]? = row[(j + k) % row.length]? := by
  unfold rotP
  by_cases h : j < row.length - k
  · rw [List.getElem?_append_left (by rw [List.length_drop]; exact h), List.getElem?_drop, Nat.mod_eq_of_lt (by omega), Nat.add_comm]
  · have e : (j + k) % row.length = j + k - row.length := by
      rw [Nat.mod_eq_sub_mod (by omega), Nat.mod_eq_of_lt (by omega)]
    rw [List.getElem?_append_right (by rw [List.length_drop]; omega), List.length_drop, List.getElem?_take_of_lt (by omega), e]
    congr 1
    omega
theorem CS.rot {row : List Int} {a b : Int} {k : Nat} (h : CS row a b) (hk : k ≤ row.length) : CS (rotP row k) a b := by
  obtain ⟨i, hi, e1, e2⟩ := h
  have ex : ∃ j, j < row.length ∧ (j + k) % row.length = i := by
    by_cases c : k ≤ i
    · exact ⟨i - k, by omega, by rw [Nat.sub_add_cancel c, Nat.mod_eq_of_lt hi]⟩
    · exact ⟨i + row.length - k, by omega, by rw [Nat.sub_add_cancel (by omega), Nat.add_mod_right, Nat.mod_eq_of_lt hi]⟩
  obtain ⟨j, hj, ej⟩ := ex
  refine ⟨j, by rw [rotP_len hk]; exact hj, by rw [rotP_get hk hj, ej]; exact e1, ?_⟩
  rw [rotP_len hk, rotP_get hk (Nat.mod_lt _ (by omega)), Nat.mod_add_mod, show j + 1 + k = j + k + 1 by omega, ← Nat.mod_add_mod, ej]
  exact e2
theorem rotP_back {row : List Int} {k : Nat} (hk : k ≤ row.length) : rotP (rotP row k) (row.length - k) = row := by
  have l : (row.drop k).length = row.length - k := List.length_drop
  unfold rotP
  rw [← l, List.drop_left, List.take_left, List.take_append_drop]
theorem CS.rot_iff {row : List Int} {a b : Int} {k : Nat} (hk : k ≤ row.length) : CS (rotP row k) a b ↔ CS row a b :=
  ⟨fun h => by
    have := CS.rot (k := row.length - k) h (by rw [rotP_len hk]; omega)
    rwa [rotP_back hk] at this, fun h => h.rot hk⟩
theorem CS.keep1 {g m a b : Int} {t : List Int} (h : CS (g :: t) a b) (ne : b ≠ g) : CS (m :: g :: t) a b := by
  obtain ⟨i, hi, e1, e2⟩ := h
  have lt : i + 1 < (g :: t).length := by
    refine Classical.byContradiction fun c => ne ?_
    have : i + 1 = (g :: t).length := by omega
    rw [this, Nat.mod_self] at e2
    exact (Option.some.inj e2).symm
  rw [Nat.mod_eq_of_lt lt] at e2
  refine ⟨i + 1, by rw [List.length_cons]; omega, e1, ?_⟩
  rw [Nat.mod_eq_of_lt (by rw [List.length_cons]; omega)]
  exact e2
theorem CS.last1 {g m a : Int} {t : List Int} (nd : (g :: t).Nodup) (h : CS (g :: t) a g) : CS (m :: g :: t) a m := by
  obtain ⟨i, hi, e1, e2⟩ := h
  have e : i + 1 = (g :: t).length := by
    refine Classical.byContradiction fun c => ?_
    rw [Nat.mod_eq_of_lt (by omega)] at e2
    have h0 : (g :: t)[i + 1] = g := Option.some.inj ((List.getElem?_eq_getElem (by omega)).symm.trans e2)
    exact List.pairwise_iff_getElem.mp (List.nodup_iff_pairwise_ne.mp nd) 0 (i + 1) (by rw [List.length_cons]; omega) (by omega) (by omega) h0.symm
  refine ⟨i + 1, by rw [List.length_cons]; omega, e1, ?_⟩
  rw [show (m :: g :: t).length = i + 1 + 1 by rw [List.length_cons, e], Nat.mod_self]
  rfl
theorem CS.first1 {g m : Int} {t : List Int} : CS (m :: g :: t) m g := by
  refine ⟨0, by simp, rfl, ?_⟩
  rw [Nat.mod_eq_of_lt (by simp)]
  rfl
theorem CS.alone (m : Int) : CS [m] m m := ⟨0, by simp, rfl, by rw [show (0 + 1) % [m].length = 0 from Nat.mod_self 1]; rfl⟩
def gC (row : List Int) (i : Nat) : Int := row.getD (i % row.length) 0
theorem rotP_gC {row : List Int} {i : Nat} (ne : row ≠ []) (hi : i ≤ row.length) : ∃ t, rotP row i = gC row i :: t := by
  have l0 : 0 < row.length := List.length_pos_iff.mpr ne
  have h := rotP_get (j := 0) hi l0
  rw [Nat.zero_add] at h
  cases e : rotP row i with
  | nil =>
    have := rotP_len hi
    rw [e] at this
    simp at this
    omega
  | cons g t =>
    rw [e] at h
    refine ⟨t, ?_⟩
    have : some g = row[i % row.length]? := h
    unfold gC
    rw [List.getD_eq_getElem?_getD, ← this]
    rfl
theorem insR_len {row : List Int} {i : Nat} {m : Int} : (insR row i m).length = row.length + 1 := by
  unfold insR
  rw [List.length_append, List.length_append, List.length_take, List.length_drop, List.length_singleton]
  omega
theorem rotP_ins {row : List Int} {i : Nat} {m : Int} (hi : i ≤ row.length) : rotP (insR row i m) i = m :: rotP row i := by
  have l : (row.take i).length = i := by rw [List.length_take]; omega
  have e : insR row i m = row.take i ++ (m :: row.drop i) := by
    unfold insR
    rw [List.append_assoc]
    rfl
  unfold rotP
  rw [e]
  conv => lhs; rw [show List.drop i (row.take i ++ (m :: row.drop i)) = m :: row.drop i by
    conv => lhs; arg 1; rw [← l]
    exact List.drop_left, show List.take i (row.take i ++ (m :: row.drop i)) = row.take i by
    conv => lhs; arg 1; rw [← l]
    exact List.take_left]
  rfl
section
variable {row : List Int} {i : Nat} {m a b : Int} (ne : row ≠ []) (hi : i ≤ row.length)
include ne hi
theorem CS.insKeep (h : CS row a b) (nb : b ≠ gC row i) : CS (insR row i m) a b := by
  obtain ⟨t, e⟩ := rotP_gC ne hi
  rw [← CS.rot_iff (k := i) (by rw [insR_len]; omega), rotP_ins hi, e]
  exact CS.keep1 (e ▸ h.rot hi) nb
theorem CS.insLast (nd : row.Nodup) (h : CS row a (gC row i)) : CS (insR row i m) a m := by
  obtain ⟨t, e⟩ := rotP_gC ne hi
  rw [← CS.rot_iff (k := i) (by rw [insR_len]; omega), rotP_ins hi, e]
  exact CS.last1 (e ▸ (rotP_perm row i).nodup_iff.mpr nd) (e ▸ h.rot hi)
theorem CS.insFirst : CS (insR row i m) m (gC row i) := by
  obtain ⟨t, e⟩ := rotP_gC ne hi
  rw [← CS.rot_iff (k := i) (by rw [insR_len]; omega), rotP_ins hi, e]
  exact CS.first1
end
theorem CS.fn {row : List Int} (nd : row.Nodup) {a b b' : Int} (h : CS row a b) (k : CS row a b') : b = b' := by
  obtain ⟨i, hi, e1, e2⟩ := h
  obtain ⟨j, hj, f1, f2⟩ := k
  have : i = j := by
    have h1 := Option.some.inj ((List.getElem?_eq_getElem hi).symm.trans e1)
    have h2 := Option.some.inj ((List.getElem?_eq_getElem hj).symm.trans f1)
    have np := List.pairwise_iff_getElem.mp (List.nodup_iff_pairwise_ne.mp nd)
    rcases Nat.lt_trichotomy i j with c | c | c
    · exact (np i j hi hj c (h1.trans h2.symm)).elim
    · exact c
    · exact (np j i hj hi c (h2.trans h1.symm)).elim
  subst this
  exact Option.some.inj (e2.symm.trans f2)
theorem CS.mem {row : List Int} {a b : Int} (h : CS row a b) : a ∈ row ∧ b ∈ row := by
  obtain ⟨i, hi, e1, e2⟩ := h
  exact ⟨List.mem_of_getElem? e1, List.mem_of_getElem? e2⟩
/-- the step behind a step. -/
def NxR (es : List (Int × Int)) (rs : List (List Int)) (x y : Dt) : Prop := ∃ (p : Nat) (row : List Int), rs[p]? = some row ∧ y.2 = (p : Int) ∧ x.2 = othE es x.1 p ∧ CS row x.1 y.1
def DtE (es : List (Int × Int)) (x : Dt) : Prop := ∃ (k : Nat) (e : Int × Int), es[k]? = some e ∧ x.1 = (k : Int) ∧ (x.2 = e.1 ∨ x.2 = e.2)
theorem NxR.fn {es : List (Int × Int)} {rs : List (List Int)} (od : Ord rs es) : ∀ x y y' : Dt, NxR es rs x y → NxR es rs x y' → y = y' := fun x y y' ⟨p, row, e1, e2, e3, c⟩ ⟨q, row', f1, f2, f3, d⟩ => by
  have : (p : Int) = q := othE_inj (e3.symm.trans f3)
  have pq : p = q := by omega
  subst pq
  have : row = row' := Option.some.inj (e1.symm.trans f1)
  subst this
  exact Prod.ext (c.fn (od.nd _ (List.mem_of_getElem? e1)) d) (e2.trans f2.symm)
theorem othE_app {es : List (Int × Int)} {e : Int × Int} {k p : Int} (h0 : 0 ≤ k) (h1 : k < (es.length : Int)) : othE (es ++ [e]) k p = othE es k p := by
  unfold othE
  rw [List.getD_eq_getElem?_getD, List.getD_eq_getElem?_getD, List.getElem?_append_left (by omega)]
theorem othE_new {es : List (Int × Int)} {e : Int × Int} {p : Int} : othE (es ++ [e]) (es.length : Int) p = e.1 + e.2 - p := by
  unfold othE
  rw [List.getD_eq_getElem?_getD, Int.toNat_natCast, List.getElem?_append_right (Nat.le_refl _), Nat.sub_self]
  rfl
theorem DtE.app {es : List (Int × Int)} {e : Int × Int} {x : Dt} : DtE (es ++ [e]) x ↔ DtE es x ∨ x = ((es.length : Int), e.1) ∨ x = ((es.length : Int), e.2) := by
  constructor
  · rintro ⟨k, f, ek, e1, e2⟩
    by_cases hk : k < es.length
    · rw [List.getElem?_append_left hk] at ek
      exact .inl ⟨k, f, ek, e1, e2⟩
    · have h2 := (List.getElem?_eq_some_iff.mp ek).1
      rw [List.length_append, List.length_singleton] at h2
      have : k = es.length := by omega
      subst this
      rw [List.getElem?_append_right (Nat.le_refl _), Nat.sub_self] at ek
      have : e = f := Option.some.inj ek
      subst this
      exact .inr (e2.imp (fun z => Prod.ext e1 z) fun z => Prod.ext e1 z)
  · rintro (⟨k, f, ek, e1, e2⟩ | h | h)
    · exact ⟨k, f, by rw [List.getElem?_append_left (List.getElem?_eq_some_iff.mp ek).1]; exact ek, e1, e2⟩
    · exact ⟨es.length, e, by rw [List.getElem?_append_right (Nat.le_refl _), Nat.sub_self]; rfl, by rw [h], .inl (by rw [h])⟩
    · exact ⟨es.length, e, by rw [List.getElem?_append_right (Nat.le_refl _), Nat.sub_self]; rfl, by rw [h], .inr (by rw [h])⟩
theorem DtE.lt {es : List (Int × Int)} {x : Dt} (h : DtE es x) : 0 ≤ x.1 ∧ x.1 < (es.length : Int) := by
  obtain ⟨k, e, ek, e1, _⟩ := h
  have := (List.getElem?_eq_some_iff.mp ek).1
  omega
/-! ### Euler's rule, kept while a web grows -/
inductive Cn (es : List (Int × Int)) : Int → Int → Prop
  | refl (p : Int) : Cn es p p
  | fwd {p : Int} {e : Int × Int} : Cn es p e.1 → e ∈ es → Cn es p e.2
  | bwd {p : Int} {e : Int × Int} : Cn es p e.2 → e ∈ es → Cn es p e.1
theorem Cn.mono {es es' : List (Int × Int)} (h : ∀ e ∈ es, e ∈ es') {p q : Int} (c : Cn es p q) : Cn es' p q := by
  induction c with
  | refl => exact .refl _
  | fwd _ m ih => exact .fwd ih (h _ m)
  | bwd _ m ih => exact .bwd ih (h _ m)
theorem Cn.trans {es : List (Int × Int)} {p q r : Int} (a : Cn es p q) (b : Cn es q r) : Cn es p r := by
  induction b with
  | refl => exact a
  | fwd _ m ih => exact .fwd ih m
  | bwd _ m ih => exact .bwd ih m
theorem Cn.symm {es : List (Int × Int)} {p q : Int} (a : Cn es p q) : Cn es q p := by
  induction a with
  | refl => exact .refl _
  | fwd _ m ih => exact Cn.trans (.bwd (.refl _) m) ih
  | bwd _ m ih => exact Cn.trans (.fwd (.refl _) m) ih
theorem Cn.lab {es : List (Int × Int)} {lab : Int → Int} (t : ∀ e ∈ es, lab e.1 = lab e.2) {p q : Int} (c : Cn es p q) : lab p = lab q := by
  induction c with
  | refl => rfl
  | fwd _ m ih => rw [ih, t _ m]
  | bwd _ m ih => rw [ih, t _ m]
def plC (lab : Int → Int) (n : Nat) (c : Int) : Nat := (List.range n).countP fun p : Nat => decide (lab p = c)
def tcC (lab : Int → Int) (es : List (Int × Int)) (c : Int) : Nat := es.countP fun e => decide (lab e.1 = c)
def hlC (lab : Int → Int) : List Dt → Option Int
  | [] => none
  | x :: _ => some (lab x.2)
def fcC (lab : Int → Int) (fs : List (List Dt)) (c : Int) : Nat := fs.countP fun f => decide (hlC lab f = some c)
theorem plC_ext {lab lab' : Int → Int} {n : Nat} (h : ∀ p : Nat, p < n → lab' p = lab p) (c : Int) : plC lab' n c = plC lab n c :=
  List.countP_congr fun p hp => by rw [h p (List.mem_range.mp hp)]
theorem plC_succ (lab : Int → Int) (n : Nat) (c : Int) : plC lab (n + 1) c = plC lab n c + if lab n = c then 1 else 0 := by
  unfold plC
  rw [List.range_succ, List.countP_append, List.countP_singleton]
  by_cases h : lab n = c
  · rw [if_pos h, if_pos (decide_eq_true h)]
  · rw [if_neg h, if_neg (by rw [decide_eq_false h]; exact Bool.false_ne_true)]
theorem tcC_ext {lab lab' : Int → Int} {es : List (Int × Int)} (h : ∀ e ∈ es, lab' e.1 = lab e.1) (c : Int) : tcC lab' es c = tcC lab es c :=
  List.countP_congr fun e he => by rw [h e he]
theorem tcC_snoc (lab : Int → Int) (es : List (Int × Int)) (e : Int × Int) (c : Int) : tcC lab (es ++ [e]) c = tcC lab es c + if lab e.1 = c then 1 else 0 := by
  unfold tcC
  rw [List.countP_append, List.countP_singleton]
  by_cases h : lab e.1 = c
  · rw [if_pos h, if_pos (decide_eq_true h)]
  · rw [if_neg h, if_neg (by rw [decide_eq_false h]; exact Bool.false_ne_true)]
theorem fcC_ext {lab lab' : Int → Int} {fs : List (List Dt)} (h : ∀ f ∈ fs, ∀ x ∈ f, lab' x.2 = lab x.2) (c : Int) : fcC lab' fs c = fcC lab fs c :=
  List.countP_congr fun f hf => by
    cases f with
    | nil => exact Iff.rfl
    | cons x xs =>
      have := h _ hf x List.mem_cons_self
      show decide (some (lab' x.2) = some c) = true ↔ decide (some (lab x.2) = some c) = true
      rw [this]
theorem fcC_cons (lab : Int → Int) (f : List Dt) (fs : List (List Dt)) (c : Int) : fcC lab (f :: fs) c = fcC lab fs c + if hlC lab f = some c then 1 else 0 := by
  unfold fcC
  rw [List.countP_cons]
  by_cases h : hlC lab f = some c
  · rw [if_pos h, if_pos (decide_eq_true h)]
  · rw [if_neg h, if_neg (by rw [decide_eq_false h]; exact Bool.false_ne_true)]
theorem fcC_perm {lab : Int → Int} {fs gs : List (List Dt)} (p : fs.Perm gs) (c : Int) : fcC lab fs c = fcC lab gs c := p.countP_eq _
theorem Wk.lab {R : Dt → Dt → Prop} {L : Dt → Int} (k : ∀ x y, R x y → L x = L y) {b : Dt} : ∀ {xs : List Dt} {a : Dt}, Wk R a xs b → ∀ z ∈ xs, L z = L a
  | c :: cs, a, h, z, hz => by
    rcases List.mem_cons.mp hz with e | hz'
    · rw [e]; exact (k _ _ h.1).symm
    · exact (Wk.lab k h.2 z hz').trans (k _ _ h.1).symm
theorem CyR.hl {R : Dt → Dt → Prop} {lab : Int → Int} (k : ∀ x y, R x y → lab x.2 = lab y.2) {f : List Dt} (h : CyR R f) {z : Dt} (hz : z ∈ f) : hlC lab f = some (lab z.2) := by
  cases f with
  | nil => cases hz
  | cons x xs =>
    rcases List.mem_cons.mp hz with e | hz'
    · rw [e]; rfl
    · have := Wk.lab (L := fun z => lab z.2) k h z hz'
      show some (lab x.2) = some (lab z.2)
      rw [this]
structure Eul (es : List (Int × Int)) (rs : List (List Int)) (lab : Int → Int) (fs : List (List Dt)) : Prop where
  od : Ord rs es
  dec : Dec (NxR es rs) (DtE es) fs
  lr : ∀ p : Nat, p < rs.length → 0 ≤ lab p ∧ lab p < (rs.length : Int)
  tie : ∀ e ∈ es, lab e.1 = lab e.2
  con : ∀ p q : Nat, p < rs.length → q < rs.length → lab p = lab q → Cn es p q
  one : ∀ p : Nat, rs[p]? = some [] → ∀ q : Nat, q < rs.length → lab q = lab p → q = p
  eul : ∀ (p : Nat) (row : List Int), rs[p]? = some row → row ≠ [] → plC lab rs.length (lab p) + fcC lab fs (lab p) = tcC lab es (lab p) + 2
theorem Ord.nxLab {rs : List (List Int)} {es : List (Int × Int)} (od : Ord rs es) {lab : Int → Int} (t : ∀ e ∈ es, lab e.1 = lab e.2) : ∀ x y : Dt, NxR es rs x y → lab x.2 = lab y.2 := fun x y ⟨p, row, e1, e2, e3, c⟩ => by
  obtain ⟨k, e, ek, ee, ce⟩ := (od.mem p row e1 x.1).mp c.mem.1
  have h1 : othE es x.1 p = e.1 + e.2 - p := by
    unfold othE
    rw [ek, Int.toNat_natCast, List.getD_eq_getElem?_getD, ee]
    rfl
  have tt := t e (List.mem_of_getElem? ee)
  rw [e3, h1, e2]
  rcases ce with z | z
  · rw [show e.1 + e.2 - (p : Int) = e.2 by omega, ← z, tt]
  · rw [show e.1 + e.2 - (p : Int) = e.1 by omega, ← z, tt]
theorem DtE.rng {rs : List (List Int)} {es : List (Int × Int)} (od : Ord rs es) {x : Dt} (h : DtE es x) : 0 ≤ x.2 ∧ x.2 < (rs.length : Int) := by
  obtain ⟨k, e, ek, _, c⟩ := h
  have := od.ends e (List.mem_of_getElem? ek)
  rcases c with c | c <;> rw [c]
  · exact this.1
  · exact this.2.1
theorem Eul.start : Eul [] [[]] (fun _ => 0) [] where
  od := Ord.start
  dec := ⟨fun f h => (by cases h), fun f h => (by cases h), List.Pairwise.nil, fun x => ⟨fun ⟨k, e, h, _⟩ => (by simp at h), fun ⟨f, h, _⟩ => (by cases h)⟩⟩
  lr := fun p hp => by simp at hp; subst hp; decide
  tie := fun e h => (by cases h)
  con := fun p q hp hq _ => by
    simp at hp hq
    subst hp; subst hq
    exact .refl _
  one := fun p h q hq _ => by
    have := (List.getElem?_eq_some_iff.mp h).1
    simp at this hq
    omega
  eul := fun p row h ne => by
    have := (List.getElem?_eq_some_iff.mp h).1
    simp at this
    subst this
    exact (ne (Option.some.inj h).symm).elim
theorem Dec.keep {R R' : Dt → Dt → Prop} {D : Dt → Prop} {fs : List (List Dt)} (h : Dec R D fs) (k : ∀ x y, R x y → R' x y) : Dec R' D fs :=
  ⟨fun f hf => (h.cy f hf).keep fun x y _ r => k x y r, h.nd, h.dj, h.all⟩
section
variable {es : List (Int × Int)} {rs : List (List Int)} {lab : Int → Int} {fs : List (List Dt)}
theorem Eul.din (u : Eul es rs lab fs) {f : List Dt} (hf : f ∈ fs) {x : Dt} (hx : x ∈ f) : DtE es x := (u.dec.all x).mpr ⟨f, hf, hx⟩
theorem Eul.dlab (u : Eul es rs lab fs) {lab' : Int → Int} (h : ∀ p : Nat, p < rs.length → lab' p = lab p) {x : Dt} (hx : DtE es x) : lab' x.2 = lab x.2 := by
  have := hx.rng u.od
  have e : x.2 = ((x.2.toNat : Nat) : Int) := by omega
  rw [e]
  exact h _ (by omega)
theorem Eul.elab (u : Eul es rs lab fs) {lab' : Int → Int} (h : ∀ p : Nat, p < rs.length → lab' p = lab p) {e : Int × Int} (he : e ∈ es) : lab' e.1 = lab e.1 ∧ lab' e.2 = lab e.2 := by
  have := u.od.ends e he
  have e1 : e.1 = ((e.1.toNat : Nat) : Int) := by omega
  have e2 : e.2 = ((e.2.toNat : Nat) : Int) := by omega
  exact ⟨by rw [e1]; exact h _ (by omega), by rw [e2]; exact h _ (by omega)⟩
theorem Eul.more (u : Eul es rs lab fs) : Eul es (rs ++ [[]]) (fun x => if x = (rs.length : Int) then (rs.length : Int) else lab x) fs := by
  have ag : ∀ p : Nat, p < rs.length → (fun x : Int => if x = (rs.length : Int) then (rs.length : Int) else lab x) p = lab p := fun p hp => by
    show (if (p : Int) = (rs.length : Int) then (rs.length : Int) else lab p) = lab p
    rw [if_neg (by omega)]
  have an : (fun x : Int => if x = (rs.length : Int) then (rs.length : Int) else lab x) (rs.length : Nat) = (rs.length : Int) := if_pos rfl
  have ll : (rs ++ [[]]).length = rs.length + 1 := by rw [List.length_append, List.length_singleton]
  generalize (fun x : Int => if x = (rs.length : Int) then (rs.length : Int) else lab x) = lab' at ag an
  refine ⟨u.od.more, u.dec.keep fun x y ⟨p, row, e1, r⟩ => ⟨p, row, by rw [List.getElem?_append_left (List.getElem?_eq_some_iff.mp e1).1]; exact e1, r⟩, fun p hp => ?_, fun e he => ?_, fun p q hp hq e => ?_, fun p h q hq e => ?_, fun p row h ne => ?_⟩
  · rw [ll] at hp ⊢
    by_cases c : p < rs.length
    · rw [ag p c]
      have := u.lr p c
      omega
    · have : p = rs.length := by omega
      rw [this, an]
      omega
  · rw [(u.elab ag he).1, (u.elab ag he).2]
    exact u.tie e he
  · rw [ll] at hp hq
    by_cases c : p < rs.length <;> by_cases d : q < rs.length
    · rw [ag p c, ag q d] at e
      exact u.con p q c d e
    · have d' : q = rs.length := by omega
      rw [ag p c, d', an] at e
      have := u.lr p c
      omega
    · have c' : p = rs.length := by omega
      rw [ag q d, c', an] at e
      have := u.lr q d
      omega
    · have : p = q := by omega
      rw [this]
      exact .refl _
  · rw [ll] at hq
    by_cases c : p < rs.length <;> by_cases d : q < rs.length
    · rw [ag p c, ag q d] at e
      rw [List.getElem?_append_left c] at h
      exact u.one p h q d e
    · have d' : q = rs.length := by omega
      rw [ag p c, d', an] at e
      have := u.lr p c
      omega
    · have h2 := (List.getElem?_eq_some_iff.mp h).1
      rw [ll] at h2
      have c' : p = rs.length := by omega
      rw [ag q d, c', an] at e
      have := u.lr q d
      omega
    · have h2 := (List.getElem?_eq_some_iff.mp h).1
      omega
  · by_cases c : p < rs.length
    · rw [List.getElem?_append_left c] at h
      rw [ll, plC_succ, ag p c, an, plC_ext ag, tcC_ext fun e he => (u.elab ag he).1, fcC_ext fun f hf x hx => u.dlab ag (u.din hf hx), if_neg (by have := u.lr p c; omega), Nat.add_zero]
      exact u.eul p row h ne
    · rw [List.getElem?_append_right (by omega)] at h
      have h2 := (List.getElem?_eq_some_iff.mp h).1
      simp at h2
      rw [show p - rs.length = 0 by omega] at h
      exact (ne (Option.some.inj h).symm).elim
end
/-! ### Euler's rule: a tie between two corners of a face, a tie to a new place -/
section
variable {es : List (Int × Int)} {rs rs' : List (List Int)} {lab : Int → Int} {fs : List (List Dt)} {p q : Nat} {row row2 : List Int} {i j : Nat}
theorem Ord.fresh (od : Ord rs es) {p : Nat} {row : List Int} (e : rs[p]? = some row) : (es.length : Int) ∉ row := fun h => by
  have := od.row_in (List.mem_of_getElem? e) _ h
  omega
theorem NxR.keep (od : Ord rs es) {e : Int × Int} {x y : Dt} (h : NxR es rs x y) (k : ∀ (r : Nat) (row : List Int), rs[r]? = some row → y.2 = (r : Int) → CS row x.1 y.1 → ∃ row', rs'[r]? = some row' ∧ CS row' x.1 y.1) : NxR (es ++ [e]) rs' x y := by
  obtain ⟨r, row, e1, e2, e3, c⟩ := h
  obtain ⟨row', f1, c'⟩ := k r row e1 e2 c
  have := od.row_in (List.mem_of_getElem? e1) _ c.mem.1
  exact ⟨r, row', f1, e2, by rw [othE_app this.1 this.2]; exact e3, c'⟩
theorem NxR.to (od : Ord rs es) {e : Int × Int} {x : Dt} {g m : Int} {p : Nat} {row row' : List Int} (er : rs[p]? = some row) (er' : rs'[p]? = some row') (h : NxR es rs x (g, (p : Int))) (k : CS row x.1 g → CS row' x.1 m) : NxR (es ++ [e]) rs' x (m, (p : Int)) := by
  obtain ⟨r, row0, e1, e2, e3, c⟩ := h
  have : p = r := by
    have e2' : (p : Int) = (r : Int) := e2
    omega
  subst this
  have : row = row0 := Option.some.inj (er.symm.trans e1)
  subst this
  have := od.row_in (List.mem_of_getElem? e1) _ c.mem.1
  exact ⟨p, row', er', rfl, by rw [othE_app this.1 this.2]; exact e3, k c⟩
/-- a tie between two corners of one face. -/
theorem Eul.link (u : Eul es rs lab fs) (od' : Ord rs' (es ++ [((p : Int), (q : Int))])) (pq : p ≠ q) (ep : rs[p]? = some row) (eq : rs[q]? = some row2) (np : row ≠ []) (nq : row2 ≠ []) (hi : i ≤ row.length) (hj : j ≤ row2.length) (hl : rs'.length = rs.length) (e1 : rs'[p]? = some (insR row i es.length)) (e2 : rs'[q]? = some (insR row2 j es.length)) (eo : ∀ r, r ≠ p → r ≠ q → rs'[r]? = rs[r]?) (f0 : List Dt) (hf0 : f0 ∈ fs) (dp0 : (gC row i, (p : Int)) ∈ f0) (dq0 : (gC row2 j, (q : Int)) ∈ f0) : ∃ fs', Eul (es ++ [((p : Int), (q : Int))]) rs' lab fs' := by
  have hp := (List.getElem?_eq_some_iff.mp ep).1
  have hq := (List.getElem?_eq_some_iff.mp eq).1
  have nx := u.od.nxLab u.tie
  obtain ⟨f, ys, rest, pm, pf, dec⟩ := u.dec.front (u.din hf0 dp0)
  have ff : f = f0 := u.dec.one (pm.mem_iff.mpr List.mem_cons_self) hf0 (pf.mem_iff.mpr List.mem_cons_self) dp0
  have dq1 : (gC row2 j, (q : Int)) ∈ ys := by
    rcases List.mem_cons.mp (pf.mem_iff.mp (ff ▸ dq0)) with z | z
    · have : (q : Int) = (p : Int) := congrArg Prod.snd z
      omega
    · exact z
  have hl0 : ∀ g, g ∈ fs → ∀ z ∈ g, hlC lab g = some (lab z.2) := fun g hg z hz => (u.dec.cy g hg).hl nx hz
  have lpq : lab p = lab q := Option.some.inj ((hl0 f0 hf0 _ dp0).symm.trans (hl0 f0 hf0 _ dq0))
  obtain ⟨as, bs, rfl⟩ := List.append_of_mem dq1
  have nD : ∀ s : Int, ¬ DtE es ((es.length : Int), s) := fun s z => by
    have h : 0 ≤ (es.length : Int) ∧ (es.length : Int) < (es.length : Int) := z.lt
    omega
  have on1 : othE (es ++ [((p : Int), (q : Int))]) (es.length : Int) q = p := by
    rw [othE_new]
    show (p : Int) + q - q = p
    omega
  have on2 : othE (es ++ [((p : Int), (q : Int))]) (es.length : Int) p = q := by
    rw [othE_new]
    show (p : Int) + q - p = q
    omega
  have d' := dec.split (R' := NxR (es ++ [((p : Int), (q : Int))]) rs') (D' := DtE (es ++ [((p : Int), (q : Int))])) (m1 := ((es.length : Int), (p : Int))) (m2 := ((es.length : Int), (q : Int))) (nD _) (nD _) (fun z => by
      have : (p : Int) = q := congrArg Prod.snd z
      omega) (fun x y r n1 n2 => r.keep u.od fun s srow es' ey c => by
      by_cases sp : s = p
      · subst sp
        have : row = srow := Option.some.inj (ep.symm.trans es')
        subst this
        exact ⟨_, e1, c.insKeep np hi fun z => n1 (Prod.ext z ey)⟩
      by_cases sq : s = q
      · subst sq
        have : row2 = srow := Option.some.inj (eq.symm.trans es')
        subst this
        exact ⟨_, e2, c.insKeep nq hj fun z => n2 (Prod.ext z ey)⟩
      · exact ⟨srow, by rw [eo s sp sq]; exact es', c⟩)
    (fun x r => NxR.to u.od ep e1 r fun c => c.insLast np hi (u.od.nd _ (List.mem_of_getElem? ep)))
    ⟨q, _, e2, rfl, on1.symm, CS.insFirst nq hj⟩
    (fun x r => NxR.to u.od eq e2 r fun c => c.insLast nq hj (u.od.nd _ (List.mem_of_getElem? eq)))
    ⟨p, _, e1, rfl, on2.symm, CS.insFirst np hi⟩
    (fun x => DtE.app)
  refine ⟨_, od', d', fun r hr => ?_, fun e he => ?_, fun a b ha hb e => ?_, fun r h s hs e => ?_, fun r rw0 h ne => ?_⟩
  · rw [hl] at hr ⊢
    exact u.lr r hr
  · rcases List.mem_append.mp he with z | z
    · exact u.tie e z
    · rw [List.mem_singleton.mp z]; exact lpq
  · rw [hl] at ha hb
    exact (u.con a b ha hb e).mono fun _ => List.mem_append_left _
  · rw [hl] at hs
    have rp : r ≠ p := fun z => by
      rw [z, e1] at h
      have := congrArg List.length (Option.some.inj h)
      rw [insR_len] at this
      exact Nat.succ_ne_zero _ this
    have rq : r ≠ q := fun z => by
      rw [z, e2] at h
      have := congrArg List.length (Option.some.inj h)
      rw [insR_len] at this
      exact Nat.succ_ne_zero _ this
    rw [eo r rp rq] at h
    exact u.one r h s hs e
  · have old : plC lab rs.length (lab r) + fcC lab fs (lab r) = tcC lab es (lab r) + 2 := by
      by_cases rp : r = p
      · rw [rp]; exact u.eul p row ep np
      by_cases rq : r = q
      · rw [rq]; exact u.eul q row2 eq nq
      · rw [eo r rp rq] at h
        exact u.eul r rw0 h ne
    have h1 : hlC lab f = some (lab p) := hl0 f (ff ▸ hf0) _ (ff ▸ dp0)
    rw [fcC_perm pm, fcC_cons, h1] at old
    rw [hl, fcC_cons, fcC_cons, tcC_snoc]
    show plC lab rs.length (lab r) + (fcC lab rest (lab r) + (if some (lab q) = some (lab r) then 1 else 0) + (if some (lab p) = some (lab r) then 1 else 0)) = tcC lab es (lab r) + (if lab p = lab r then 1 else 0) + 2
    rw [← lpq]
    by_cases c : lab p = lab r
    · rw [if_pos (congrArg some c)] at old ⊢
      rw [if_pos c]
      omega
    · have c' : ¬ some (lab p) = some (lab r) := fun z => c (Option.some.inj z)
      rw [if_neg c'] at old ⊢
      rw [if_neg c]
      omega
end
/-! ### Euler's rule: a tie to a new place -/
theorem plC_one {lab : Int → Int} {n p : Nat} (hp : p < n) (h : ∀ q : Nat, q < n → lab q = lab p → q = p) : plC lab n (lab p) = 1 := by
  have e : plC lab n (lab p) = (List.range n).count p := by
    unfold plC
    rw [List.count_eq_countP]
    refine List.countP_congr fun q hq => ?_
    rw [decide_eq_true_iff, beq_iff_eq]
    exact ⟨h q (List.mem_range.mp hq), fun z => by rw [z]⟩
  rw [e, List.Nodup.count List.nodup_range, if_pos (List.mem_range.mpr hp)]
section
variable {es : List (Int × Int)} {rs rs' : List (List Int)} {lab : Int → Int} {fs : List (List Dt)} {p : Nat} {row : List Int} {i : Nat}
theorem Eul.leaf (u : Eul es rs lab fs) (od' : Ord rs' (es ++ [((p : Int), (rs.length : Int))])) (ep : rs[p]? = some row) (hi : i ≤ row.length) (hl : rs'.length = rs.length + 1) (e1 : rs'[p]? = some (insR row i es.length)) (e2 : rs'[rs.length]? = some [(es.length : Int)]) (eo : ∀ r, r < rs.length → r ≠ p → rs'[r]? = rs[r]?) : ∃ lab' fs', Eul (es ++ [((p : Int), (rs.length : Int))]) rs' lab' fs' := by
  have hp := (List.getElem?_eq_some_iff.mp ep).1
  have nx := u.od.nxLab u.tie
  have nD : ∀ s : Int, ¬ DtE es ((es.length : Int), s) := fun s z => by
    have h : 0 ≤ (es.length : Int) ∧ (es.length : Int) < (es.length : Int) := z.lt
    omega
  have on1 : othE (es ++ [((p : Int), (rs.length : Int))]) (es.length : Int) (rs.length : Nat) = p := by
    rw [othE_new]
    show (p : Int) + rs.length - rs.length = p
    omega
  have on2 : othE (es ++ [((p : Int), (rs.length : Int))]) (es.length : Int) p = (rs.length : Int) := by
    rw [othE_new]
    show (p : Int) + rs.length - p = rs.length
    omega
  have ag : ∀ r : Nat, r < rs.length → (fun x : Int => if x = (rs.length : Int) then lab p else lab x) r = lab r := fun r hr => by
    show (if (r : Int) = (rs.length : Int) then lab p else lab r) = lab r
    rw [if_neg (by omega)]
  have an : (fun x : Int => if x = (rs.length : Int) then lab p else lab x) (rs.length : Nat) = lab p := if_pos rfl
  generalize (fun x : Int => if x = (rs.length : Int) then lab p else lab x) = lab' at ag an
  have m12 : ((es.length : Int), (p : Int)) ≠ ((es.length : Int), (rs.length : Int)) := fun z => by
    have : (p : Int) = rs.length := congrArg Prod.snd z
    omega
  have kpx : ∀ x y : Dt, NxR es rs x y → (row ≠ [] → y ≠ (gC row i, (p : Int))) → NxR (es ++ [((p : Int), (rs.length : Int))]) rs' x y := fun x y r n1 => r.keep u.od fun s srow es' ey c => by
    by_cases sp : s = p
    · subst sp
      have : row = srow := Option.some.inj (ep.symm.trans es')
      subst this
      have ne : row ≠ [] := fun z => by
        have := c.mem.1
        rw [z] at this
        cases this
      exact ⟨_, e1, c.insKeep ne hi fun z => n1 ne (Prod.ext z ey)⟩
    · exact ⟨srow, by rw [eo s (List.getElem?_eq_some_iff.mp es').1 sp]; exact es', c⟩
  -- the faces, and how many
  have dec' : ∃ fs', Dec (NxR (es ++ [((p : Int), (rs.length : Int))]) rs') (DtE (es ++ [((p : Int), (rs.length : Int))])) fs' ∧ ∀ c, fcC lab' fs' c = fcC lab fs c + if row = [] ∧ lab p = c then 1 else 0 := by
    by_cases ne : row = []
    · have e1' : rs'[p]? = some [(es.length : Int)] := by
        rw [e1, ne]
        unfold insR
        rw [List.take_nil, List.drop_nil]
        rfl
      refine ⟨_, u.dec.first (R' := NxR (es ++ [((p : Int), (rs.length : Int))]) rs') (D' := DtE (es ++ [((p : Int), (rs.length : Int))])) (nD _) (nD _) m12 (fun x y r => kpx x y r fun z => (z ne).elim) ⟨rs.length, _, e2, rfl, on1.symm, CS.alone _⟩ ⟨p, _, e1', rfl, on2.symm, CS.alone _⟩ (fun x => DtE.app), fun c => ?_⟩
      rw [fcC_cons, fcC_ext (lab := lab) (lab' := lab') fun f hf x hx => u.dlab ag (u.din hf hx)]
      show fcC lab fs c + (if some (lab' p) = some c then 1 else 0) = _
      rw [ag p hp]
      by_cases z : lab p = c
      · rw [if_pos (congrArg some z), if_pos ⟨ne, z⟩]
      · rw [if_neg (fun w => z (Option.some.inj w)), if_neg (fun w => z w.2)]
    · have dp : DtE es (gC row i, (p : Int)) := by
        have hm : gC row i ∈ row := by
          unfold gC
          have l0 : 0 < row.length := List.length_pos_iff.mpr ne
          have := Nat.mod_lt i l0
          rw [List.getD_eq_getElem?_getD, List.getElem?_eq_getElem this]
          exact List.getElem_mem this
        obtain ⟨k, e, ek, ee, c⟩ := (u.od.mem p row ep _).mp hm
        exact ⟨k, e, ee, ek, c.imp (fun z => z.symm) fun z => z.symm⟩
      obtain ⟨f, ys, rest, pm, pf, dec⟩ := u.dec.front dp
      have hfm : f ∈ fs := pm.mem_iff.mpr List.mem_cons_self
      have hlf : hlC lab f = some (lab p) := (u.dec.cy f hfm).hl nx (pf.mem_iff.mpr List.mem_cons_self)
      refine ⟨_, dec.leaf (R' := NxR (es ++ [((p : Int), (rs.length : Int))]) rs') (D' := DtE (es ++ [((p : Int), (rs.length : Int))])) (m1 := ((es.length : Int), (p : Int))) (m2 := ((es.length : Int), (rs.length : Int))) (nD _) (nD _) m12 (fun x y r n1 => kpx x y r fun _ => n1) (fun x r => NxR.to u.od ep e1 r fun c => c.insLast ne hi (u.od.nd _ (List.mem_of_getElem? ep))) ⟨rs.length, _, e2, rfl, on1.symm, CS.alone _⟩ ⟨p, _, e1, rfl, on2.symm, CS.insFirst ne hi⟩ (fun x => DtE.app), fun c => ?_⟩
      rw [if_neg (fun w => ne w.1), Nat.add_zero, fcC_perm pm c, fcC_cons, fcC_cons, hlf]
      rw [fcC_ext (lab := lab) (lab' := lab') fun f' hf x hx => u.dlab ag (u.din (pm.mem_iff.mpr (List.mem_cons_of_mem _ hf)) hx)]
      show fcC lab rest c + (if some (lab' p) = some c then 1 else 0) = _
      rw [ag p hp]
  obtain ⟨fs', d', fc⟩ := dec'
  have tc : ∀ c, tcC lab' (es ++ [((p : Int), (rs.length : Int))]) c = tcC lab es c + if lab p = c then 1 else 0 := fun c => by
    rw [tcC_snoc, tcC_ext fun e he => (u.elab ag he).1]
    show tcC lab es c + (if lab' p = c then 1 else 0) = _
    rw [ag p hp]
  have pc : ∀ c, plC lab' rs'.length c = plC lab rs.length c + if lab p = c then 1 else 0 := fun c => by
    rw [hl, plC_succ, plC_ext ag, an]
  have conp : Cn (es ++ [((p : Int), (rs.length : Int))]) p (rs.length : Nat) := Cn.fwd (e := ((p : Int), (rs.length : Int))) (.refl _) (List.mem_append_right _ (List.mem_singleton.mpr rfl))
  have cono : ∀ a b : Nat, a < rs.length → b < rs.length → lab a = lab b → Cn (es ++ [((p : Int), (rs.length : Int))]) a b := fun a b ha hb e => (u.con a b ha hb e).mono fun _ => List.mem_append_left _
  refine ⟨lab', fs', od', d', fun r hr => ?_, fun e he => ?_, fun a b ha hb e => ?_, fun r h s hs e => ?_, fun r rw0 h ne => ?_⟩
  · rw [hl] at hr ⊢
    by_cases c : r < rs.length
    · rw [ag r c]
      have := u.lr r c
      omega
    · have := u.lr p hp
      rw [show r = rs.length by omega, an]
      omega
  · rcases List.mem_append.mp he with z | z
    · rw [(u.elab ag z).1, (u.elab ag z).2]
      exact u.tie e z
    · rw [List.mem_singleton.mp z]
      show lab' p = lab' (rs.length : Nat)
      rw [an, ag p hp]
  · rw [hl] at ha hb
    by_cases c : a < rs.length <;> by_cases d : b < rs.length
    · rw [ag a c, ag b d] at e
      exact cono a b c d e
    · have d' : b = rs.length := by omega
      subst d'
      rw [ag a c, an] at e
      exact (cono a p c hp e).trans conp
    · have c' : a = rs.length := by omega
      subst c'
      rw [an, ag b d] at e
      exact conp.symm.trans (cono p b hp d e)
    · have : a = b := by omega
      rw [this]
      exact .refl _
  · have h2 := (List.getElem?_eq_some_iff.mp h).1
    rw [hl] at hs h2
    have rn : r ≠ rs.length := fun z => by
      rw [z, e2] at h
      cases h
    have rp : r ≠ p := fun z => by
      rw [z, e1] at h
      have := congrArg List.length (Option.some.inj h)
      rw [insR_len] at this
      exact Nat.succ_ne_zero _ this
    have hr : r < rs.length := by omega
    rw [eo r hr rp] at h
    rw [ag r hr] at e
    by_cases d : s < rs.length
    · rw [ag s d] at e
      exact u.one r h s d e
    · rw [show s = rs.length by omega, an] at e
      exact (rp (u.one r h p hp e).symm).elim
  · rw [pc, fc, tc]
    by_cases c : lab p = lab' r
    · rw [← c, if_pos rfl]
      by_cases z : row = []
      · subst z
        rw [if_pos ⟨rfl, rfl⟩]
        have one := u.one p ep
        have t0 : tcC lab es (lab p) = 0 := by
          refine List.countP_eq_zero.mpr fun e he k => ?_
          have k' := of_decide_eq_true k
          have en := u.od.ends e he
          have e1' : e.1 = ((e.1.toNat : Nat) : Int) := by omega
          rw [e1'] at k'
          have := one _ (by omega) k'
          obtain ⟨kk, ek⟩ := List.getElem?_of_mem he
          have := (u.od.mem p [] ep (kk : Int)).mpr ⟨kk, e, rfl, ek, .inl (by omega)⟩
          cases this
        have f0 : fcC lab fs (lab p) = 0 := by
          refine List.countP_eq_zero.mpr fun f hf k => ?_
          have k' := of_decide_eq_true k
          obtain ⟨x, hx⟩ := (u.dec.cy f hf).ne
          rw [(u.dec.cy f hf).hl nx hx] at k'
          have k2 := Option.some.inj k'
          have dx := u.din hf hx
          have rg := dx.rng u.od
          have e1' : x.2 = ((x.2.toNat : Nat) : Int) := by omega
          rw [e1'] at k2
          have := one _ (by omega) k2
          obtain ⟨kk, e, ek, _, ce⟩ := dx
          have := (u.od.mem p [] ep (kk : Int)).mpr ⟨kk, e, rfl, ek, ce.imp (fun z => by omega) fun z => by omega⟩
          cases this
        rw [plC_one hp one, t0, f0]
      · rw [if_neg (fun w => z w.1)]
        have := u.eul p row ep z
        omega
    · rw [if_neg c, if_neg (fun w => c w.2)]
      have h2 := (List.getElem?_eq_some_iff.mp h).1
      rw [hl] at h2
      have rn : r ≠ rs.length := fun z => c (by rw [z, an])
      have hr : r < rs.length := by omega
      rw [ag r hr] at c
      have rp : r ≠ p := fun z => c (by rw [z])
      rw [eo r hr rp] at h
      have := u.eul r rw0 h ne
      rw [ag r hr]
      omega
end
/-! ### flats: corners of one face -/
inductive RchF (R : Dt → Dt → Prop) (a : Dt) : Dt → Prop
  | refl : RchF R a a
  | step {b c : Dt} : RchF R a b → R b c → RchF R a c
theorem RchF.face {R : Dt → Dt → Prop} {D : Dt → Prop} {fs : List (List Dt)} (fn : ∀ x y y', R x y → R x y' → y = y') (d : Dec R D fs) {a b : Dt} (h : RchF R a b) {f : List Dt} (hf : f ∈ fs) (ha : a ∈ f) : b ∈ f := by
  induction h with
  | refl => exact ha
  | step _ r ih =>
    obtain ⟨y, hy, r'⟩ := (d.cy f hf).next _ ih
    exact fn _ _ _ r r' ▸ hy
/-- a corner that is come to round the face of the first one. -/
def CrOk (es : List (Int × Int)) (rs : List (List Int)) (p0 at0 : Int) (row0 : List Int) (c : Int × Int) : Prop := ∃ rowc, rs[c.1.toNat]? = some rowc ∧ rowc ≠ [] ∧ 0 ≤ c.2 ∧ c.2 ≤ (rowc.length : Int) ∧ RchF (NxR es rs) (gC row0 at0.toNat, p0) (gC rowc c.2.toNat, c.1)
def spCorners : Sp := fun vs H Q _ => ∃ (T O : Addr) (p0 at0 : Int) (us : List V) (es : List (Int × Int)) (A : List Addr) (rs : List (List Int)), vs = [.ref T, .ref O, .int p0, .int at0] ∧ H T = some (.lst us) ∧ Paired (PrV H) us es ∧ H O = some (.lst (A.map V.ref)) ∧ Rw H A rs ∧ Ord rs es ∧ rs.length ≤ 200 ∧ es.length ≤ 200 ∧ (0 ≤ p0 ∧ p0 < (rs.length : Int)) ∧ (∃ row0, rs[p0.toNat]? = some row0 ∧ 0 ≤ at0 ∧ at0 ≤ (row0.length : Int)) ∧
  ∀ L ws cs H', Same H H' → H L = none → H' L = some (.lst ws) → Paired (PrV H') ws cs → (∀ c ∈ cs, ((0 ≤ c.1 ∧ c.1 < (rs.length : Int)) ∧ (0 ≤ c.2 ∧ c.2 ≤ 1000)) ∧ (c.1 ≠ p0 → ∃ row0, rs[p0.toNat]? = some row0 ∧ row0 ≠ [] ∧ CrOk es rs p0 at0 row0 c)) → cs.length ≤ 402 → Q (.ref L) H'
theorem in_flat (xs : List Int) : (xs.map V.int).all flatV = true := by
  rw [List.all_map, List.all_eq_true]
  intro x _
  rfl
section
variable {P : Program} {w : World} {K : PySem.W.Frag} {mg : Str → Option Value} {base : Heap}
set_option maxHeartbeats 2000000 in
theorem ok_l_corners {f : Addr} {fd : FuncData} (F : Fun K "_law_corners" "_law_corners" s_l_corners f fd) (M : Free mg) : FnOk P w K mg base CX0 1 f fd ["_law_ties", "_law_orders", "_law_place", "_law_at"] spCorners := by
  refine F.ok sc_l_corners (fun vs H Q E h => ?_) (fun cdv A outer s H vs Q E hr h => ?_)
  · obtain ⟨T, O, p0, at0, us, es, A, rs, rfl, _⟩ := h
    rfl
  · obtain ⟨T, O, p0, at0, us, es, A, rs, rfl, hT, hu, hO, hA, or_, nr, ne, hp0, ⟨row0, er0, ha0⟩, q⟩ := h
    refine ⟨_, (pss_cons (ps_set (i := 4) sc_l_corners.nd rfl (.inl rfl) (pe_lst pa_nil))
      (pss_cons (ps_set (i := 5) sc_l_corners.nd rfl (.inl rfl) (pe_tup (pa_cons (pv 2) (pa_cons (pv 3) pa_nil))))
      (pss_cons (ps_for PassesOwn.never rfl (pi_range1 (by rfl) M.range (pa_cons (pe_op op_add (pe_op op_mul pe_int (pe_callB call_len_seq (by rfl) M.len PySem.boot_len (pa_cons (pv 0) pa_nil))) pe_int) pa_nil)) (pg_name (i := 6) sc_l_corners.nd rfl (.inl rfl))
        (pss_cons (ps_expr (pe_bm PySem.F.plainAttrs_list PySem.F.slot_list_append PySem.F.type_list_append mt_append (pv 4) (pa_cons (pv 5) pa_nil)))
        (pss_cons (ps_if (pt_cmpR (op_eqE hr.units0) (pe_ix ix_list (pv 1) (pe_ix ix_tup (pv 5) pe_int (fun _ _ => rfl)) (fun _ _ => rfl)) (pe_lst pa_nil) (nomark _))
          (pss_one (ps_ret (pv 4)))
          pss_nil)
        (pss_cons (ps_set (i := 7) sc_l_corners.nd rfl (.inl rfl) (pe_ix ix_list (pe_ix ix_list (pv 1) (pe_ix ix_tup (pv 5) pe_int (fun _ _ => rfl)) (fun _ _ => rfl)) (pe_op op_mod (pe_ix ix_tup (pv 5) pe_int (fun _ _ => rfl)) (pe_callB call_len_seq (by rfl) M.len PySem.boot_len (pa_cons (pe_ix ix_list (pv 1) (pe_ix ix_tup (pv 5) pe_int (fun _ _ => rfl)) (fun _ _ => rfl)) pa_nil))) (fun _ _ => rfl)))
        (pss_cons (ps_set (i := 8) sc_l_corners.nd rfl (.inl rfl) (pe_op op_sub (pe_op op_add (pe_ix ix_tup (pe_ix ix_list (pv 0) (pv 7) (fun _ _ => rfl)) pe_int (fun _ _ => rfl)) (pe_ix ix_tup (pe_ix ix_list (pv 0) (pv 7) (fun _ _ => rfl)) pe_int (fun _ _ => rfl))) (pe_ix ix_tup (pv 5) pe_int (fun _ _ => rfl))))
        (pss_cons (ps_set (i := 5) sc_l_corners.nd rfl (.inl rfl) (pe_tup (pa_cons (pv 8) (pa_cons (pe_op op_add (pe_bm PySem.F.plainAttrs_list PySem.F.slot_list_index PySem.F.type_list_index mt_index (pe_ix ix_list (pv 1) (pv 8) (fun _ _ => rfl)) (pa_cons (pv 7) pa_nil)) pe_int) pa_nil))))
        (pss_one (ps_if (pt_cmpR (op_eqD hr.units) (pe_tup (pa_cons (pe_ix ix_tup (pv 5) pe_int (fun _ _ => rfl)) (pa_cons (pe_op op_mod (pe_ix ix_tup (pv 5) pe_int (fun _ _ => rfl)) (pe_callB call_len_seq (by rfl) M.len PySem.boot_len (pa_cons (pe_ix ix_list (pv 1) (pe_ix ix_tup (pv 5) pe_int (fun _ _ => rfl)) (fun _ _ => rfl)) pa_nil))) pa_nil))) (pe_tup (pa_cons (pv 2) (pa_cons (pe_op op_mod (pv 3) (pe_callB call_len_seq (by rfl) M.len PySem.boot_len (pa_cons (pe_ix ix_list (pv 1) (pv 2) (fun _ _ => rfl)) pa_nil))) pa_nil))) (nomark _))
          (pss_one (ps_ret (pv 4)))
          pss_nil))))))))
      (pss_one (ps_ret (pv 4)))))), ?_⟩
    have lA := hA.len
    have lu : us.length = es.length := Paired.length hu
    refine ⟨Nat.zero_le _, fun L nL => ?_⟩
    have sL := same_new (o := .lst []) nL
    have hL1 : (upd H L (.lst [])) L = some (.lst []) := upd_same
    generalize upd H L (.lst []) = H1 at sL hL1
    refine ⟨.int p0, rfl, .int at0, rfl, by show 2 ≤ sizeLine; decide, fun h0 n0 => ?_⟩
    have s0 := same_new (o := .tup [.int p0, .int at0]) n0
    have hh0 : (upd H1 h0 (.tup [.int p0, .int at0])) h0 = some (.tup [.int p0, .int at0]) := upd_same
    have hL2 := s0 _ _ hL1
    have s2 := sL.trans s0
    generalize upd H1 h0 (.tup [.int p0, .int at0]) = H2 at hh0 hL2 s2
    refine ⟨.ref T, rfl, T, us, rfl, .inl (SqL.of (s2 _ _ hT)), _, _, rfl, rfl, .inl ⟨by decide, by decide⟩, _, _, rfl, rfl, _, rfl, by omega, by omega, ?_⟩
    have row_of : ∀ {p : Int}, 0 ≤ p → p < (rs.length : Int) → ∃ (ra : Addr) (row : List Int), atI (A.map V.ref) p = some (.ref ra) ∧ rs[p.toNat]? = some row ∧ H ra = some (.lst (row.map V.int)) := fun {p} h0 h1 => by
      have hl : p.toNat < A.length := by omega
      have e := List.getElem?_eq_getElem hl
      obtain ⟨row, e1, e2⟩ := hA.each _ _ e
      refine ⟨_, row, ?_, e1, e2⟩
      have := atI_nat (xs := A.map V.ref) (j := p.toNat) (v := .ref A[p.toNat]) (by rw [List.getElem?_map, e]; rfl)
      rw [show ((p.toNat : Nat) : Int) = p by omega] at this
      exact this
    obtain ⟨r0, row0_, at0e, er0_, hr0⟩ := row_of hp0.1 hp0.2
    have : row0 = row0_ := Option.some.inj (er0.symm.trans er0_)
    subst this
    have lr0 := or_.row_len (List.mem_of_getElem? er0)
    refine for_range (lo := 0) (n := (2 * (us.length : Int) + 1).toNat) (fun i σ' H' => ∃ (h : Addr) (p a : Int) (y6 y7 y8 : Option V) (ws : List V) (cs : List (Int × Int)), σ' = [some (.ref T), some (.ref O), some (.int p0), some (.int at0), some (.ref L), some (.ref h), y6, y7, y8] ∧ H' h = some (.tup [.int p, .int a]) ∧ (0 ≤ p ∧ p < (rs.length : Int)) ∧ (0 ≤ a ∧ a ≤ 1000) ∧ (p = p0 ∨ row0 ≠ []) ∧ (row0 ≠ [] → CrOk es rs p0 at0 row0 (p, a)) ∧ H' L = some (.lst ws) ∧ Paired (PrV H') ws cs ∧ (∀ c ∈ cs, ((0 ≤ c.1 ∧ c.1 < (rs.length : Int)) ∧ (0 ≤ c.2 ∧ c.2 ≤ 1000)) ∧ (c.1 ≠ p0 → ∃ row0, rs[p0.toNat]? = some row0 ∧ row0 ≠ [] ∧ CrOk es rs p0 at0 row0 c)) ∧ cs.length = i ∧ Same H H') ⟨h0, p0, at0, none, none, none, [], [], rfl, hh0, hp0, ⟨ha0.1, by omega⟩, .inl rfl, fun n0 => ⟨row0, er0, n0, ha0.1, ha0.2, .refl⟩, hL2, .nil, fun c hc => (by cases hc), rfl, s2⟩ ?_ ?_
    · clear hL2 hh0 s2
      rintro i σ' H3 hi ⟨h, p, a, y6, y7, y8, ws, cs, rfl, hh, hp, ha, ne0, cr, hL3, hw, hc, lc, s3⟩
      have lw := Paired.length hw
      refine ⟨.ref L, rfl, .inl ⟨rfl, _, SqL.of hL3⟩, .ref h, rfl, L, _, _, rfl, rfl, hL3, small1000 (by omega), ?_⟩
      have tk := tk_lst (ys := ws ++ [.ref h]) hL3
      have hh4 := tk _ _ hh
      have s4 : Same H (upd H3 L (.lst (ws ++ [.ref h]))) := Same.mut s3 nL
      have hL4 : (upd H3 L (.lst (ws ++ [.ref h]))) L = some (.lst (ws ++ [.ref h])) := upd_same
      have hw4 : Paired (PrV (upd H3 L (.lst (ws ++ [.ref h])))) (ws ++ [.ref h]) (cs ++ [(p, a)]) := Paired.snoc (pr_tk tk hw) ⟨h, rfl, hh4⟩
      have hc4 : ∀ c ∈ cs ++ [(p, a)], ((0 ≤ c.1 ∧ c.1 < (rs.length : Int)) ∧ (0 ≤ c.2 ∧ c.2 ≤ 1000)) ∧ (c.1 ≠ p0 → ∃ row0, rs[p0.toNat]? = some row0 ∧ row0 ≠ [] ∧ CrOk es rs p0 at0 row0 c) := fun c hm => by
        rcases List.mem_append.mp hm with z | z
        · exact hc c z
        · rw [List.mem_singleton.mp z]
          refine ⟨⟨hp, ha⟩, fun z => ?_⟩
          have n0 := ne0.resolve_left z
          exact ⟨row0, er0, n0, cr n0⟩
      have lc4 : (cs ++ [(p, a)]).length = i + 1 := by simp [lc]
      generalize upd H3 L (.lst (ws ++ [.ref h])) = H4 at hh4 s4 hL4 hw4
      generalize ws ++ [.ref h] = ws4 at hL4 hw4
      generalize cs ++ [(p, a)] = cs4 at hw4 hc4 lc4
      obtain ⟨ra, row, e1, er, hra⟩ := row_of hp.1 hp.2
      refine ⟨.ref O, rfl, .ref h, rfl, h, _, 0, .int p, rfl, rfl, SqT.of hh4, rfl, O, _, p, .ref ra, rfl, rfl, SqL.of (s4 _ _ hO), e1, Nat.zero_le _, fun Z nZ => ⟨ra, Z, _, rfl, rfl, SqL.of (same_new nZ _ _ (s4 _ _ hra)), SqL.of upd_same, _, rfl, ?_⟩⟩
      have sZ := same_new (o := .lst []) nZ
      have hh5 := sZ _ _ hh4
      have hL5 := sZ _ _ hL4
      have hw5 := pr_tk (Same.tk sZ) hw4
      have s5 := s4.trans sZ
      generalize upd H4 Z (.lst []) = H5 at hh5 hL5 hw5 s5
      by_cases en : row = []
      · subst en
        exact ⟨.ref L, rfl, q L ws4 cs4 _ s5 nL hL5 hw5 hc4 (by omega)⟩
      rw [show (row.map V.int).isEmpty = false from by cases row; exact absurd rfl en; rfl]
      have hrm := List.mem_of_getElem? er
      have lrow := or_.row_len hrm
      have lpos := List.length_pos_iff.mpr en
      have am := mod_rng (a := a) (m := (row.length : Int)) (by omega)
      obtain ⟨x', x1, x2⟩ := getI (xs := row.map V.int) am.1 (by rw [List.length_map]; exact am.2)
      rw [List.getElem?_map] at x2
      obtain ⟨x, ex, rfl⟩ := Option.map_eq_some_iff.mp x2
      have xin := or_.row_in hrm x (List.mem_of_getElem? ex)
      obtain ⟨k, e, rfl, ek, pe⟩ := (or_.mem _ _ er x).mp (List.mem_of_getElem? ex)
      rw [show ((p.toNat : Nat) : Int) = p by omega] at pe
      have hO5 := s5 _ _ hO
      have hra5 := s5 _ _ hra
      refine ⟨.ref O, rfl, .ref h, rfl, h, _, 0, .int p, rfl, rfl, SqT.of hh5, rfl, O, _, p, .ref ra, rfl, rfl, SqL.of hO5, e1, .ref h, rfl, h, _, 1, .int a, rfl, rfl, SqT.of hh5, rfl, .ref O, rfl, .ref h, rfl, h, _, 0, .int p, rfl, rfl, SqT.of hh5, rfl, O, _, p, .ref ra, rfl, rfl, SqL.of hO5, e1, ra, _, rfl, .inl (SqL.of hra5), _, _, rfl, rfl, (by show (0 : Int) < (((row.map V.int).length : Nat) : Int); rw [List.length_map]; omega), ra, _, _, .int (k : Nat), rfl, rfl, SqL.of hra5, (by rw [List.length_map]; exact x1), ?_⟩
      obtain ⟨u, eu, c, rfl, hcc⟩ := Paired.at' hu ek
      have ends := or_.ends e (List.mem_of_getElem? ek)
      have hT5 := s5 _ _ hT
      have hc5 := s5 _ _ hcc
      refine ⟨.ref T, rfl, .int (k : Nat), rfl, T, us, _, .ref c, rfl, rfl, SqL.of hT5, atI_nat eu, c, _, 0, .int e.1, rfl, rfl, SqT.of hc5, rfl, .ref T, rfl, .int (k : Nat), rfl, T, us, _, .ref c, rfl, rfl, SqL.of hT5, atI_nat eu, c, _, 1, .int e.2, rfl, rfl, SqT.of hc5, rfl, _, _, rfl, rfl, .ref h, rfl, h, _, 0, .int p, rfl, rfl, SqT.of hh5, rfl, _, _, rfl, rfl, ?_⟩
      have th : 0 ≤ e.1 + e.2 - p ∧ e.1 + e.2 - p < (rs.length : Int) ∧ (e.1 = e.1 + e.2 - p ∨ e.2 = e.1 + e.2 - p) := by omega
      obtain ⟨th', hth⟩ : ∃ th', th' = e.1 + e.2 - p := ⟨_, rfl⟩
      rw [← hth] at th
      obtain ⟨rb, rowb, e1b, erb, hrb⟩ := row_of th.1 th.2.1
      have kb : ((k : Nat) : Int) ∈ rowb := (or_.mem _ _ erb _).mpr ⟨k, e, rfl, ek, by rw [show ((th'.toNat : Nat) : Int) = th' by omega]; exact th.2.2⟩
      have hrbm := List.mem_of_getElem? erb
      have lrowb := or_.row_len hrbm
      obtain ⟨jl, ej⟩ := List.getElem_of_mem kb
      obtain ⟨jl2, ej⟩ := ej
      have ndb := or_.nd rowb hrbm
      have hrb5 := s5 _ _ hrb
      refine ⟨.int th', by rw [hth]; rfl, .ref O, rfl, .int th', by rw [hth]; rfl, O, _, th', .ref rb, rfl, rfl, SqL.of hO5, e1b, .inl ⟨rfl, _, SqL.of hrb5⟩, .int (k : Nat), rfl, rb, _, .int (k : Nat), jl, .int (k : Nat), rfl, rfl, SqL.of hrb5, rfl, in_flat _, (by rw [List.getElem?_map, List.getElem?_eq_getElem jl2, ej]; rfl), (by show (((k : Nat) : Int) == ((k : Nat) : Int)) = true; simp), fun m z' hm ez => ?_, _, _, rfl, rfl, by show 2 ≤ sizeLine; decide, fun r nr => ?_⟩
      · rw [List.getElem?_map] at ez
        obtain ⟨z, ez2, rfl⟩ := Option.map_eq_some_iff.mp ez
        show (z == ((k : Nat) : Int)) = false
        rw [beq_eq_false_iff_ne]
        intro zk
        obtain ⟨ml, ez3⟩ := List.getElem?_eq_some_iff.mp ez2
        exact List.pairwise_iff_getElem.mp ndb m jl ml jl2 hm (by rw [ez3, ej, zk])
      · have sr := same_new (o := .tup [.int th', .int ((jl : Nat) + 1)]) nr
        have hr6 : (upd H5 r (.tup [.int th', .int ((jl : Nat) + 1)])) r = some (.tup [.int th', .int ((jl : Nat) + 1)]) := upd_same
        have hL6 := sr _ _ hL5
        have hw6 := pr_tk (Same.tk sr) hw5
        have s6 := s5.trans sr
        generalize upd H5 r (.tup [.int th', .int ((jl : Nat) + 1)]) = H6 at hr6 hL6 hw6 s6
        have hO6 := s6 _ _ hO
        have n0 : row0 ≠ [] := ne0.elim (fun z => by
          rw [z, er0] at er
          cases er
          exact en) id
        have l0 := List.length_pos_iff.mpr n0
        have lb : 0 < rowb.length := by omega
        refine ⟨.ref r, rfl, r, _, 0, .int th', rfl, rfl, SqT.of hr6, rfl, .ref r, rfl, r, _, 1, .int ((jl : Nat) + 1), rfl, rfl, SqT.of hr6, rfl, .ref O, rfl, .ref r, rfl, r, _, 0, .int th', rfl, rfl, SqT.of hr6, rfl, O, _, th', .ref rb, rfl, rfl, SqL.of hO6, e1b, rb, _, rfl, .inl (SqL.of (s6 _ _ hrb)), _, _, rfl, rfl, (by show (0 : Int) < (((rowb.map V.int).length : Nat) : Int); rw [List.length_map]; omega), by show 2 ≤ sizeLine; decide, fun c1 nc1 => ?_⟩
        have sc1 := same_new (o := .tup [.int th', .int (((jl : Nat) + 1) % (((rowb.map V.int).length : Nat) : Int))]) nc1
        refine ⟨.int p0, rfl, .int at0, rfl, .ref O, rfl, .int p0, rfl, O, _, p0, .ref r0, rfl, rfl, SqL.of (sc1 _ _ hO6), at0e, r0, _, rfl, .inl (SqL.of (sc1 _ _ (s6 _ _ hr0))), _, _, rfl, rfl, (by show (0 : Int) < (((row0.map V.int).length : Nat) : Int); rw [List.length_map]; omega), by show 2 ≤ sizeLine; decide, fun c2 nc2 => ?_⟩
        have sc2 := same_new (o := .tup [.int p0, .int (at0 % (((row0.map V.int).length : Nat) : Int))]) nc2
        have sc := sc1.trans sc2
        refine ⟨_, _, IntsV.dp (xs := [th', ((jl : Nat) + 1) % (((rowb.map V.int).length : Nat) : Int)]) ⟨c1, rfl, sc2 _ _ upd_same⟩, IntsV.dp (xs := [p0, at0 % (((row0.map V.int).length : Nat) : Int)]) ⟨c2, rfl, upd_same⟩, shaped_intsD _, shaped_intsD _, _, rfl, ite2 (fun _ => ?_) (fun _ => ?_)⟩
        · exact ⟨.ref L, rfl, q L ws4 cs4 _ (s6.trans sc) nL (sc _ _ hL6) (pr_tk (Same.tk sc) hw6) hc4 (by omega)⟩
        · have cr' : CrOk es rs p0 at0 row0 (th', ((jl : Nat) : Int) + 1) := by
            obtain ⟨rowc, erc, nc, c0, c1, rch⟩ := cr n0
            have : row = rowc := Option.some.inj (er.symm.trans erc)
            subst this
            have kx : gC row a.toNat = ((k : Nat) : Int) := by
              unfold gC
              rw [Int.toNat_emod ha.1 (by omega), Int.toNat_natCast] at ex
              rw [List.getD_eq_getElem?_getD, ex]
              rfl
            refine ⟨rowb, erb, List.ne_nil_of_length_pos lb, by show (0 : Int) ≤ ((jl : Nat) : Int) + 1; omega, by show ((jl : Nat) : Int) + 1 ≤ _; omega, .step rch ⟨th'.toNat, rowb, erb, by show th' = ((th'.toNat : Nat) : Int); omega, ?_, jl, jl2, ?_, ?_⟩⟩
            · show p = othE es (gC row a.toNat) ((th'.toNat : Nat) : Int)
              rw [kx]
              unfold othE
              rw [Int.toNat_natCast, List.getD_eq_getElem?_getD, ek]
              show p = e.1 + e.2 - ((th'.toNat : Nat) : Int)
              omega
            · show rowb[jl]? = some (gC row a.toNat)
              rw [kx, List.getElem?_eq_getElem jl2, ej]
            · show rowb[(jl + 1) % rowb.length]? = some (gC rowb (((jl : Nat) : Int) + 1).toNat)
              have l2 := Nat.mod_lt (jl + 1) lb
              unfold gC
              rw [show (((jl : Nat) : Int) + 1).toNat = jl + 1 by omega, List.getD_eq_getElem?_getD, List.getElem?_eq_getElem l2]
              rfl
          exact ⟨r, th', (jl : Nat) + 1, _, _, _, ws4, cs4, rfl, sc _ _ hr6, ⟨th.1, th.2.1⟩, by omega, .inr n0, fun _ => cr', sc _ _ hL6, pr_tk (Same.tk sc) hw6, hc4, lc4, s6.trans sc⟩
    · rintro σ' H3 ⟨h, p, a, y6, y7, y8, ws, cs, rfl, hh, hp, ha, ne0, cr, hL3, hw, hc, lc, s3⟩
      exact ⟨.ref L, rfl, q L ws cs _ s3 nL hL3 hw hc (by omega)⟩
end
/-! ### flats: what is grown keeps Euler's rule -/
def EulE (es : List (Int × Int)) (rs : List (List Int)) : Prop := ∃ lab fs, Eul es rs lab fs
theorem EulE.od {es : List (Int × Int)} {rs : List (List Int)} (u : EulE es rs) : Ord rs es := by
  obtain ⟨_, _, h⟩ := u
  exact h.od
theorem EulE.start : EulE [] [[]] := ⟨_, _, Eul.start⟩
theorem EulE.more {es : List (Int × Int)} {rs : List (List Int)} (u : EulE es rs) : EulE es (rs ++ [[]]) := by
  obtain ⟨_, _, h⟩ := u
  exact ⟨_, _, h.more⟩
theorem EulE.link {es : List (Int × Int)} {rs rs' : List (List Int)} {pl ql aq bq m : Int} {row row2 : List Int} (u : EulE es rs) (p0 : 0 ≤ pl) (q0 : 0 ≤ ql) (od' : Ord rs' (es ++ [(pl, ql)])) (ne : pl.toNat ≠ ql.toNat) (ep : rs[pl.toNat]? = some row) (a1 : aq ≤ (row.length : Int)) (cr : ∃ row0, rs[pl.toNat]? = some row0 ∧ row0 ≠ [] ∧ CrOk es rs pl aq row0 (ql, bq)) (eq : rs[ql.toNat]? = some row2) (hm : m = (es.length : Int)) (hr : rs' = (rs.set pl.toNat (insR row aq.toNat m)).set ql.toNat (insR row2 bq.toNat m)) : EulE (es ++ [(pl, ql)]) rs' := by
  obtain ⟨lab, fs, h⟩ := u
  obtain ⟨row0, er0, n0, rowc, erc, nc, b0, b1, rch⟩ := cr
  have : row = row0 := Option.some.inj (ep.symm.trans er0)
  subst this
  have : row2 = rowc := Option.some.inj (eq.symm.trans erc)
  subst this
  have hp := (List.getElem?_eq_some_iff.mp ep).1
  have hq := (List.getElem?_eq_some_iff.mp eq).1
  have ip : ((pl.toNat : Nat) : Int) = pl := by omega
  have iq : ((ql.toNat : Nat) : Int) = ql := by omega
  have dp : DtE es (gC row aq.toNat, pl) := by
    have hm : gC row aq.toNat ∈ row := by
      unfold gC
      have := Nat.mod_lt aq.toNat (List.length_pos_iff.mpr n0)
      rw [List.getD_eq_getElem?_getD, List.getElem?_eq_getElem this]
      exact List.getElem_mem this
    obtain ⟨k, e, ek, ee, c⟩ := (h.od.mem _ row ep _).mp hm
    rw [ip] at c
    exact ⟨k, e, ee, ek, c.imp (fun z => z.symm) fun z => z.symm⟩
  obtain ⟨f0, hf0, dp0⟩ := (h.dec.all _).mp dp
  have dq0 := rch.face (NxR.fn h.od) h.dec hf0 dp0
  have b1' : bq ≤ (row2.length : Int) := b1
  obtain ⟨fs', h'⟩ := h.link (p := pl.toNat) (q := ql.toNat) (i := aq.toNat) (j := bq.toNat) (rs' := rs') (by rw [ip, iq]; exact od') ne ep eq n0 nc (by omega) (by omega) (by rw [hr, List.length_set, List.length_set]) (by rw [hr, List.getElem?_set_ne ne.symm, List.getElem?_set_self hp, hm]) (by rw [hr, List.getElem?_set_self (by rw [List.length_set]; exact hq), hm]) (fun r r1 r2 => by rw [hr, List.getElem?_set_ne r2.symm, List.getElem?_set_ne r1.symm]) f0 hf0 (by rw [ip]; exact dp0) (by rw [iq]; exact dq0)
  rw [ip, iq] at h'
  exact ⟨_, _, h'⟩
theorem EulE.leaf {es : List (Int × Int)} {rs rs' : List (List Int)} {pl aq m : Int} {row : List Int} (u : EulE es rs) (p0 : 0 ≤ pl) (od' : Ord rs' (es ++ [(pl, (rs.length : Int))])) (ep : rs[pl.toNat]? = some row) (a1 : aq ≤ (row.length : Int)) (hm : m = (es.length : Int)) (hr : rs' = (rs ++ [[m]]).set pl.toNat (insR row aq.toNat m)) : EulE (es ++ [(pl, (rs.length : Int))]) rs' := by
  obtain ⟨lab, fs, h⟩ := u
  have hp := (List.getElem?_eq_some_iff.mp ep).1
  have ip : ((pl.toNat : Nat) : Int) = pl := by omega
  have ll : (rs ++ [[m]]).length = rs.length + 1 := by rw [List.length_append, List.length_singleton]
  obtain ⟨lab', fs', h'⟩ := h.leaf (p := pl.toNat) (i := aq.toNat) (rs' := rs') (by rw [ip]; exact od') ep (by omega) (by rw [hr, List.length_set, ll]) (by rw [hr, List.getElem?_set_self (by omega), hm]) (by rw [hr, List.getElem?_set_ne (by omega), List.getElem?_append_right (Nat.le_refl _), Nat.sub_self, hm]; rfl) (fun r r1 r2 => by rw [hr, List.getElem?_set_ne r2.symm, List.getElem?_append_left r1])
  rw [ip] at h'
  exact ⟨_, _, h'⟩
def spGrown : Sp := fun vs H Q _ => ∃ (d : Addr) (most many : Int), vs = [.ref d, .int most, .int many] ∧ FDk H d ∧ 1 ≤ most ∧ most ≤ 50 ∧ 0 ≤ many ∧ many ≤ 100 ∧
  ∀ r T O us es A rs H', H' r = some (.tup [.ref T, .ref O]) → Grw H d T O H' us es A rs → Ord rs es → EulE es rs → 1 ≤ rs.length → (rs.length : Int) ≤ most → (es.length : Int) ≤ many → Q (.ref r) H'
section
variable {P : Program} {w : World} {K : PySem.W.Frag} {mg : Str → Option Value} {base : Heap}
set_option maxHeartbeats 4000000 in
theorem ok_l_grown {f : Addr} {fd : FuncData} (F : Fun K "_law_grown" "_law_grown" s_l_grown f fd) (M : Free mg) (D_l_take : Df P w K mg base 2 "_law_take" ["_law_deck_here", "_law_most"] spTake) (D_l_corners : Df P w K mg base 1 "_law_corners" ["_law_ties", "_law_orders", "_law_place", "_law_at"] spCorners) : FnOk P w K mg base CX0 3 f fd ["_law_deck_here", "_law_most", "_law_many_ties"] spGrown := by
  obtain ⟨f_l_take, fd_l_take, G_l_take, g_l_take, k_l_take, b_l_take⟩ := D_l_take
  obtain ⟨f_l_corners, fd_l_corners, G_l_corners, g_l_corners, k_l_corners, b_l_corners⟩ := D_l_corners
  refine F.ok sc_l_grown (fun vs H Q E h => ?_) (fun cdv A outer s H vs Q E hr h => ?_)
  · obtain ⟨d, most, many, rfl, _⟩ := h
    rfl
  · obtain ⟨d, most, many, rfl, hD, m0, m1, y0, y1, q⟩ := h
    refine ⟨_, (pss_cons (ps_set (i := 3) sc_l_grown.nd rfl (.inl rfl) (pe_lst (pa_cons (pe_lst pa_nil) pa_nil)))
      (pss_cons (ps_set (i := 4) sc_l_grown.nd rfl (.inl rfl) (pe_lst pa_nil))
      (pss_cons (ps_for PassesOwn.never rfl (pi_range1 (by rfl) M.range (pa_cons (pv 2) pa_nil)) (pg_name (i := 5) sc_l_grown.nd rfl (.inl rfl))
        (pss_cons (ps_set (i := 6) sc_l_grown.nd rfl (.inl rfl) (pe_call G_l_take (hr.mono (by decide)) (by rfl) g_l_take k_l_take b_l_take .nil pass0 (pa_cons (pv 0) (pa_cons pe_int pa_nil))))
        (pss_cons (ps_set (i := 7) sc_l_grown.nd rfl (.inr rfl) (pe_call G_l_take (hr.mono (by decide)) (by rfl) g_l_take k_l_take b_l_take .nil pass0 (pa_cons (pv 0) (pa_cons (pe_callB call_len_seq (by rfl) M.len PySem.boot_len (pa_cons (pv 3) pa_nil)) pa_nil))))
        (pss_cons (ps_set (i := 8) sc_l_grown.nd rfl (.inl rfl) (pe_call G_l_take (hr.mono (by decide)) (by rfl) g_l_take k_l_take b_l_take .nil pass0 (pa_cons (pv 0) (pa_cons (pe_op op_add (pe_callB call_len_seq (by rfl) M.len PySem.boot_len (pa_cons (pe_ix ix_list (pv 3) (pv 7) (fun _ _ => rfl)) pa_nil)) pe_int) pa_nil))))
        (pss_one (ps_if (PW.pt (pw_and (pt_cmpR op_lt (pv 6) pe_int (nomark _)) (pw_and1 (pt_cmpR op_lt (pe_callB call_len_seq (by rfl) M.len PySem.boot_len (pa_cons (pv 3) pa_nil)) (pv 1) (nomark _)))))
          (pss_cons (ps_expr (pe_bm PySem.F.plainAttrs_list PySem.F.slot_list_append PySem.F.type_list_append mt_append (pv 3) (pa_cons (pe_lst (pa_cons (pe_callB call_len_seq (by rfl) M.len PySem.boot_len (pa_cons (pv 4) pa_nil)) pa_nil)) pa_nil)))
          (pss_cons (ps_expr (pe_bm PySem.F.plainAttrs_list PySem.F.slot_list_insert PySem.F.type_list_insert mt_insert (pe_ix ix_list (pv 3) (pv 7) (fun _ _ => rfl)) (pa_cons (pv 8) (pa_cons (pe_callB call_len_seq (by rfl) M.len PySem.boot_len (pa_cons (pv 4) pa_nil)) pa_nil))))
          (pss_one (ps_expr (pe_bm PySem.F.plainAttrs_list PySem.F.slot_list_append PySem.F.type_list_append mt_append (pv 4) (pa_cons (pe_tup (pa_cons (pv 7) (pa_cons (pe_op op_sub (pe_callB call_len_seq (by rfl) M.len PySem.boot_len (pa_cons (pv 3) pa_nil)) pe_int) pa_nil))) pa_nil))))))
          (pss_one (ps_if (PW.pt (pw_and (pt_cmpR op_eq (pv 6) pe_int (nomark _)) (pw_and1 (pt_cmpR op_lt (pe_callB call_len_seq (by rfl) M.len PySem.boot_len (pa_cons (pv 3) pa_nil)) (pv 1) (nomark _)))))
            (pss_one (ps_expr (pe_bm PySem.F.plainAttrs_list PySem.F.slot_list_append PySem.F.type_list_append mt_append (pv 3) (pa_cons (pe_lst pa_nil) pa_nil))))
            (pss_cons (ps_setLc (i := 9) (own := [("_law_corner", 10)]) (g := (gName 10)) (te := tVar 10) rfl sc_l_grown.nd rfl rfl (sw_true rfl rfl rfl (by decide +kernel)) (pi_list (pe_call G_l_corners (hr.mono (by decide)) (by rfl) g_l_corners k_l_corners b_l_corners .nil pass0 (pa_cons (pv 4) (pa_cons (pv 3) (pa_cons (pv 7) (pa_cons (pv 8) pa_nil)))))) (blkOk_by (N := N_l_grown) (sc := defScope s_l_grown) (own := [("_law_corner", 10)]) (by decide +kernel)) (fun _ _ _ _ _ => (pg_name (i := 10) sc_l_grown.nd rfl (.inl rfl))) (fun _ _ _ _ _ => (pts_one (pt_cmpR op_ne (pe_ix (r := rIxT K) ix_tup (pv 10) pe_int (fun _ _ => rfl)) (pv 7) (nomark _)))) (fun _ _ _ _ _ => (pv 10)))
            (pss_one (ps_if (pt_cmpR (op_neE hr.units0) (pv 9) (pe_lst pa_nil) (nomark _))
              (pss_cons (ps_asg (pe_ix ix_list (pv 9) (pe_call G_l_take (hr.mono (by decide)) (by rfl) g_l_take k_l_take b_l_take .nil pass0 (pa_cons (pv 0) (pa_cons (pe_callB call_len_seq (by rfl) M.len PySem.boot_len (pa_cons (pv 9) pa_nil)) pa_nil))) (fun _ _ => rfl)) (pg_tup rfl (pgs_cons (pg_name (i := 11) sc_l_grown.nd rfl (.inl rfl)) (pgs_cons (pg_name (i := 12) sc_l_grown.nd rfl (.inl rfl)) pgs_nil))))
              (pss_cons (ps_expr (pe_bm PySem.F.plainAttrs_list PySem.F.slot_list_insert PySem.F.type_list_insert mt_insert (pe_ix ix_list (pv 3) (pv 7) (fun _ _ => rfl)) (pa_cons (pv 8) (pa_cons (pe_callB call_len_seq (by rfl) M.len PySem.boot_len (pa_cons (pv 4) pa_nil)) pa_nil))))
              (pss_cons (ps_expr (pe_bm PySem.F.plainAttrs_list PySem.F.slot_list_insert PySem.F.type_list_insert mt_insert (pe_ix ix_list (pv 3) (pv 11) (fun _ _ => rfl)) (pa_cons (pv 12) (pa_cons (pe_callB call_len_seq (by rfl) M.len PySem.boot_len (pa_cons (pv 4) pa_nil)) pa_nil))))
              (pss_one (ps_expr (pe_bm PySem.F.plainAttrs_list PySem.F.slot_list_append PySem.F.type_list_append mt_append (pv 4) (pa_cons (pe_tup (pa_cons (pv 7) (pa_cons (pv 11) pa_nil))) pa_nil)))))))
              pss_nil)))))))))))
      (pss_one (ps_ret (pe_tup (pa_cons (pv 4) (pa_cons (pv 3) pa_nil)))))))), ?_⟩
    refine ⟨Nat.zero_le _, fun a0 na0 => ⟨by show 1 ≤ sizeLine; decide, fun O nO => ?_⟩⟩
    have s1 := same_new (o := .lst []) na0
    have ha1 : (upd H a0 (.lst [])) a0 = some (.lst (([] : List Int).map V.int)) := upd_same
    have a0d : a0 ≠ d := hD.ned na0
    have D1 := hD.same s1
    have nO0 : H O = none := s1.free nO
    have aO : a0 ≠ O := ne_of_none ha1 nO
    generalize upd H a0 (.lst []) = H1 at s1 ha1 D1 nO
    have s2 := same_new (o := .lst [.ref a0]) nO
    have hO2 : (upd H1 O (.lst [.ref a0])) O = some (.lst (([a0] : List Addr).map V.ref)) := upd_same
    have Od : O ≠ d := D1.ned nO
    have D2 := D1.same s2
    have ha2 := s2 _ _ ha1
    have s12 := s1.trans s2
    generalize upd H1 O (.lst [.ref a0]) = H2 at s2 hO2 D2 ha2 s12
    refine ⟨Nat.zero_le _, fun T nT => ?_⟩
    have s3 := same_new (o := .lst []) nT
    have g3 : Grw H d T O (upd H2 T (.lst [])) [] [] [a0] [[]] := ⟨upd_same, .nil, s3 _ _ hO2, ⟨by simp, rfl, fun j a e => by
      match j, e with
      | 0, e => cases e; exact ⟨[], rfl, s3 _ _ ha2⟩
      | j + 1, e => simp at e⟩, (ne_of_none hO2 nT).symm, D2.ned nT, Od, s12.free nT, nO0, fun a ha => by
        rw [List.mem_singleton.mp ha]
        exact ⟨ne_of_none ha2 nT, aO, a0d, na0⟩, D2.same s3, Same.kp (s12.trans s3)⟩
    generalize upd H2 T (.lst []) = H3 at g3
    refine ⟨.int many, rfl, many, rfl, by omega, by omega, ?_⟩
    refine for_range (lo := 0) (n := many.toNat) (fun i σ' H' => ∃ (y5 y6 y7 y8 y9 y11 y12 : Option V) (us : List V) (es : List (Int × Int)) (A : List Addr) (rs : List (List Int)), σ' = [some (.ref d), some (.int most), some (.int many), some (.ref O), some (.ref T), y5, y6, y7, y8, y9, none, y11, y12] ∧ Grw H d T O H' us es A rs ∧ EulE es rs ∧ 1 ≤ rs.length ∧ (rs.length : Int) ≤ most ∧ es.length ≤ i) ⟨none, none, none, none, none, none, none, [], [], [a0], [[]], rfl, g3, EulE.start, by simp, by simp; omega, by simp⟩ ?_ ?_
    · rintro i σ' H4 hi ⟨y5, y6, y7, y8, y9, y11, y12, us, es, A, rs, rfl, g, ue, r1, r50, le⟩
      have od := ue.od
      have lA := g.rw'.len
      have lu : us.length = es.length := Paired.length g.hu
      have lAm : (A.map V.ref).length = rs.length := by rw [List.length_map, lA]
      -- way
      refine ⟨.ref d, rfl, d, 8, rfl, g.dk, by decide, by decide, fun wy H5 w0 w1 D5 K5 => ?_⟩
      have g := g.take K5 D5
      -- place
      refine ⟨.ref d, rfl, .ref O, rfl, O, _, rfl, .inl (SqL.of g.hO), d, _, rfl, g.dk, by omega, by omega, fun pl H6 p0 p1 D6 K6 => ?_⟩
      rw [lAm] at p1
      have g := g.take K6 D6
      obtain ⟨ra, row, ea, e1, er, hra⟩ := g.at' p0 p1
      have lrow := od.row_len (List.mem_of_getElem? er)
      -- at
      refine ⟨.ref d, rfl, .ref O, rfl, .int pl, rfl, O, _, pl, .ref ra, rfl, rfl, SqL.of g.hO, e1, ra, _, rfl, .inl (SqL.of hra), _, _, rfl, rfl, d, _, rfl, g.dk, by omega, by rw [List.length_map]; omega, fun at' H7 t0 t1 D7 K7 => ?_⟩
      rw [List.length_map] at t1
      have g := g.take K7 D7
      obtain ⟨ra', row', ea', e1', er', hra⟩ := g.at' p0 p1
      rw [ea] at ea'
      cases ea'
      rw [er] at er'
      cases er'
      clear e1' D5 K5 D6 K6 D7 K7
      refine ⟨.int wy, rfl, _, _, rfl, rfl, _, rfl, ?_⟩
      by_cases h1 : wy < 4
      · rw [decide_eq_true h1]
        refine ⟨.ref O, rfl, O, _, rfl, .inl (SqL.of g.hO), .int most, rfl, _, _, rfl, rfl, _, rfl, ?_⟩
        by_cases h2 : (((A.map V.ref).length : Nat) : Int) < most
        · rw [decide_eq_true h2]
          refine ⟨.ref O, rfl, .inl ⟨rfl, _, SqL.of g.hO⟩, .ref T, rfl, T, us, rfl, .inl (SqL.of g.hT), by show 1 ≤ sizeLine; decide, fun p np => ?_⟩
          have g1 := g.more np [((us.length : Nat) : Int)]
          refine ⟨O, _, _, rfl, rfl, same_new np _ _ g.hO, small1000 (by omega), ?_⟩
          have hx : upd (upd H7 p (.lst ([((us.length : Nat) : Int)].map V.int))) O (.lst (A.map V.ref ++ [.ref p])) = upd (upd H7 p (.lst [V.int (us.length : Nat)])) O (.lst (A.map V.ref ++ [.ref p])) := rfl
          rw [hx] at g1
          generalize upd (upd H7 p (.lst [V.int (us.length : Nat)])) O (.lst (A.map V.ref ++ [.ref p])) = H8 at g1
          obtain ⟨ra1, row1, ea1, e11, er1, hra1⟩ := g1.at' (p := pl) p0 (by rw [List.length_append]; show pl < ((rs.length + 1 : Nat) : Int); omega)
          have er1' := er1
          rw [List.getElem?_append_left (by omega), er] at er1'
          cases er1'
          refine ⟨.ref O, rfl, .int pl, rfl, O, _, pl, .ref ra1, rfl, rfl, SqL.of g1.hO, e11, .inl ⟨rfl, _, SqL.of hra1⟩, .int at', rfl, .ref T, rfl, T, us, rfl, .inl (SqL.of g1.hT), ra1, _, at', _, rfl, rfl, hra1, small1000 (by rw [List.length_map]; omega), t0, by omega, ?_⟩
          rw [insR_map]
          have g2 := g1.row ea1 hra1 (insR row at'.toNat (us.length : Nat))
          generalize upd H8 ra1 (.lst ((insR row at'.toNat (us.length : Nat)).map V.int)) = H9 at g2
          refine ⟨.ref T, rfl, .inl ⟨rfl, _, SqL.of g2.hT⟩, .int pl, rfl, .ref O, rfl, O, _, rfl, .inl (SqL.of g2.hO), _, _, rfl, rfl, by show 2 ≤ sizeLine; decide, fun c nc => ?_⟩
          have sc := same_new (o := .tup [.int pl, .int ((((A ++ [p]).map V.ref).length : Nat) - 1)]) nc
          have g3 := (g2.same sc).tie (c := c) upd_same
          refine ⟨T, us, _, rfl, rfl, (g2.same sc).hT, small1000 (by omega), ?_⟩
          have el : ((((A ++ [p]).map V.ref).length : Nat) : Int) - 1 = (rs.length : Int) := by
            rw [List.length_map, List.length_append, lA]
            show (((rs.length + 1 : Nat)) : Int) - 1 = _
            omega
          refine ⟨_, _, _, _, _, _, _, us ++ [.ref c], _, A ++ [p], _, rfl, g3, ?_, by rw [List.length_set, List.length_append]; show 1 ≤ _ + 1; omega, by rw [List.length_set, List.length_append]; show (((rs.length + 1 : Nat)) : Int) ≤ most; omega, by rw [List.length_append]; show _ + 1 ≤ _; omega⟩
          rw [el]
          have no : ∀ {r : List Int}, r ∈ rs → ((us.length : Nat) : Int) ∉ r := fun hr z => by
            have := (od.row_in hr _ z).2
            omega
          have lk := od.more.link (rs' := (rs ++ [[((us.length : Nat) : Int)]]).set pl.toNat (insR row at'.toNat (us.length : Nat))) (p := pl.toNat) (q := rs.length) (by rw [List.length_set, List.length_append, List.length_append]; rfl) (by rw [List.length_append]; show _ < _ + 1; omega) (by rw [List.length_append]; show _ < _ + 1; omega) (by omega) (fun i' row' e' => ?_)
          · rw [show ((pl.toNat : Nat) : Int) = pl by omega] at lk
            exact ue.leaf (m := ((us.length : Nat) : Int)) p0 lk er (by omega) (by rw [lu]) rfl
          · by_cases c2 : pl.toNat = i'
            · subst c2
              rw [List.getElem?_set_self (by rw [List.length_append]; show _ < _ + 1; omega)] at e'
              cases e'
              exact ⟨row, by rw [List.getElem?_append_left (by omega)]; exact er, fun _ => ⟨fun x => by rw [insR_mem, lu], insR_nd (od.nd _ (List.mem_of_getElem? er)) (no (List.mem_of_getElem? er))⟩, fun z => (z (.inl rfl)).elim⟩
            · rw [List.getElem?_set_ne c2] at e'
              by_cases c3 : i' < rs.length
              · rw [List.getElem?_append_left c3] at e'
                exact ⟨row', by rw [List.getElem?_append_left c3]; exact e', fun z => (z.elim (fun y => c2 y.symm) fun y => by omega).elim, fun _ => rfl⟩
              · have hl := (List.getElem?_eq_some_iff.mp e').1
                rw [List.length_append] at hl
                have hl : i' < rs.length + 1 := hl
                obtain rfl : i' = rs.length := by omega
                rw [List.getElem?_append_right (Nat.le_refl _), Nat.sub_self] at e'
                cases e'
                exact ⟨[], by rw [List.getElem?_append_right (Nat.le_refl _), Nat.sub_self]; rfl, fun _ => ⟨fun x => by rw [← lu]; simp, by simp⟩, fun z => (z (.inr rfl)).elim⟩
        · rw [decide_eq_false h2]
          refine ⟨.int wy, rfl, rfl, false, (by rw [dec_intF, decide_eq_false (show ¬ wy = 4 by omega)]), ?_⟩
          refine ⟨.ref T, rfl, .ref O, rfl, .int pl, rfl, .int at', rfl, T, O, pl, at', us, es, A, rs, rfl, g.hT, g.hu, g.hO, g.rw', od, by omega, by omega, ⟨p0, p1⟩, ⟨row, er, t0, by omega⟩, fun L ws cs H8 s8 nL hL hw hc lc => ?_⟩
          have lw := Paired.length hw
          refine ⟨L, rfl, ⟨ws, SqL.of hL⟩, fun Z nZ => ?_⟩
          refine lc_list (xs := ws) (fun j H' => ∃ (us' : List V) (cs' : List (Int × Int)), H' Z = some (.lst us') ∧ Paired (PrV H') us' cs' ∧ (∀ c ∈ cs', c.1 ≠ pl ∧ (0 ≤ c.1 ∧ c.1 < (rs.length : Int)) ∧ (0 ≤ c.2 ∧ c.2 ≤ 1000) ∧ ∃ row0, rs[pl.toNat]? = some row0 ∧ row0 ≠ [] ∧ CrOk es rs pl at' row0 c) ∧ us'.length ≤ j ∧ Same H8 H') ⟨[], [], upd_same, .nil, fun c hc => (by cases hc), Nat.le_refl _, same_new nZ⟩ (fun j H' _ h => by
            obtain ⟨_, _, _, _, _, _, s⟩ := h
            exact SqL.of (s _ _ hL)) ?_ ?_
          · rintro j x H9 ex ⟨us', cs', hZ, hu', hc', lu', s9⟩
            have jl := (List.getElem?_eq_some_iff.mp ex).1
            obtain ⟨q0, eq0, c, rfl, hcc⟩ := Paired.at hw ex
            refine ⟨rfl, .ref c, rfl, c, _, 0, .int q0.1, rfl, rfl, SqT.of (s9 _ _ hcc), rfl, .int pl, rfl, rfl, _, rfl, ?_⟩
            rw [dec_intF]
            by_cases e : q0.1 = pl
            · rw [decide_eq_true e]
              exact ⟨us', cs', hZ, hu', hc', by omega, s9⟩
            · rw [decide_eq_false e]
              have tk := tk_lst (ys := us' ++ [.ref c]) hZ
              refine ⟨.ref c, rfl, _, hZ, small1000 (by omega), us' ++ [.ref c], cs' ++ [q0], upd_same, Paired.snoc (pr_tk tk hu') ⟨c, rfl, tk _ _ (s9 _ _ hcc)⟩, fun z hz => ?_, by rw [List.length_append]; show _ + 1 ≤ _; omega, Same.mut s9 nZ⟩
              rcases List.mem_append.mp hz with h | h
              · exact hc' z h
              · rw [List.mem_singleton.mp h]
                exact ⟨e, (hc q0 (List.mem_of_getElem? eq0)).1.1, (hc q0 (List.mem_of_getElem? eq0)).1.2, (hc q0 (List.mem_of_getElem? eq0)).2 e⟩
          · rintro H9 ⟨us', cs', hZ, hu', hc', lu', s9⟩
            have g9 := (g.same s8).same s9
            refine ⟨.ref Z, rfl, Nat.zero_le _, fun E nE => ⟨Z, E, _, rfl, rfl, SqL.of (same_new nE _ _ hZ), SqL.of upd_same, _, rfl, ?_⟩⟩
            have sE := same_new (o := .lst []) nE
            have gE := g9.same sE
            have hZE := sE _ _ hZ
            have huE := pr_tk (Same.tk sE) hu'
            generalize upd H9 E (.lst []) = H10 at gE hZE huE
            by_cases en : us' = []
            · rw [en]
              exact ⟨_, _, _, _, _, _, _, us, es, A, rs, rfl, gE, ue, r1, r50, by omega⟩
            · rw [show (!us'.isEmpty) = true from by cases us'; exact absurd rfl en; rfl]
              have lpos := List.length_pos_iff.mpr en
              have Zd : Z ≠ d := (g.dk.same s8).ned nZ
              refine ⟨.ref Z, rfl, .ref d, rfl, .ref Z, rfl, Z, us', rfl, .inl (SqL.of hZE), d, _, rfl, gE.dk, by omega, by omega, fun v H11 v0 v1 D11 K11 => ?_⟩
              have g11 := gE.take K11 D11
              have hu11 := pr_tk (gE.dk.tk K11) huE
              obtain ⟨u, e2, e3⟩ := getI v0 v1
              obtain ⟨q0, eq0, c, rfl, hcc⟩ := Paired.at hu11 e3
              obtain ⟨qn, qb, qa, qcr⟩ := hc' q0 (List.mem_of_getElem? eq0)
              refine ⟨Z, us', v, .ref c, rfl, rfl, SqL.of (K11 _ _ Zd Zd hZE), e2, c, _, rfl, SqT.of hcc, rfl, _, _, rfl, _, _, rfl, rfl, ?_⟩
              clear gE g9 hu11 huE hZE hcc D11 K11
              obtain ⟨ra1, row1, ea1, e11, er1, hra1⟩ := g11.at' p0 p1
              rw [er] at er1
              cases er1
              refine ⟨.ref O, rfl, .int pl, rfl, O, _, pl, .ref ra1, rfl, rfl, SqL.of g11.hO, e11, .inl ⟨rfl, _, SqL.of hra1⟩, .int at', rfl, .ref T, rfl, T, us, rfl, .inl (SqL.of g11.hT), ra1, _, at', _, rfl, rfl, hra1, small1000 (by rw [List.length_map]; omega), t0, by omega, ?_⟩
              rw [insR_map]
              have g12 := g11.row ea1 hra1 (insR row at'.toNat (us.length : Nat))
              generalize upd H11 ra1 (.lst ((insR row at'.toNat (us.length : Nat)).map V.int)) = H12 at g12
              obtain ⟨rb, rowb, eb, e1b, erb, hrb⟩ := g12.at' qb.1 (by rw [List.length_set]; exact qb.2)
              have ne1 : pl.toNat ≠ q0.1.toNat := by omega
              have erb' := erb
              rw [List.getElem?_set_ne ne1] at erb'
              have lrb := od.row_len (List.mem_of_getElem? erb')
              refine ⟨.ref O, rfl, .int q0.1, rfl, O, _, q0.1, .ref rb, rfl, rfl, SqL.of g12.hO, e1b, .inl ⟨rfl, _, SqL.of hrb⟩, .int q0.2, rfl, .ref T, rfl, T, us, rfl, .inl (SqL.of g12.hT), rb, _, q0.2, _, rfl, rfl, hrb, small1000 (by rw [List.length_map]; omega), qa.1, by omega, ?_⟩
              rw [insR_map]
              have g13 := g12.row eb hrb (insR rowb q0.2.toNat (us.length : Nat))
              generalize upd H12 rb (.lst ((insR rowb q0.2.toNat (us.length : Nat)).map V.int)) = H13 at g13
              refine ⟨.ref T, rfl, .inl ⟨rfl, _, SqL.of g13.hT⟩, .int pl, rfl, .int q0.1, rfl, by show 2 ≤ sizeLine; decide, fun c' nc => ?_⟩
              have sc := same_new (o := .tup [.int pl, .int q0.1]) nc
              have g14 := (g13.same sc).tie (c := c') upd_same
              refine ⟨T, us, _, rfl, rfl, (g13.same sc).hT, small1000 (by omega), ?_⟩
              refine ⟨_, _, _, _, _, _, _, us ++ [.ref c'], es ++ [(pl, q0.1)], A, _, rfl, g14, ?_, by rw [List.length_set, List.length_set]; exact r1, by rw [List.length_set, List.length_set]; exact r50, by rw [List.length_append]; show _ + 1 ≤ _; omega⟩
              have lk := od.link (rs' := (rs.set pl.toNat (insR row at'.toNat (us.length : Nat))).set q0.1.toNat (insR rowb q0.2.toNat (us.length : Nat))) (p := pl.toNat) (q := q0.1.toNat) (by rw [List.length_set, List.length_set]) (by omega) (by omega) ne1 (fun i' row' e' => ?_)
              · rw [show ((pl.toNat : Nat) : Int) = pl by omega, show ((q0.1.toNat : Nat) : Int) = q0.1 by omega] at lk
                exact ue.link (m := ((us.length : Nat) : Int)) p0 qb.1 lk ne1 er (by omega) qcr erb' (by rw [lu]) rfl
              · have no : ∀ {r : List Int}, r ∈ rs → ((us.length : Nat) : Int) ∉ r := fun hr z => by
                  have := (od.row_in hr _ z).2
                  omega
                by_cases c1 : q0.1.toNat = i'
                · subst c1
                  rw [List.getElem?_set_self (by rw [List.length_set]; omega)] at e'
                  cases e'
                  refine ⟨rowb, erb', fun _ => ⟨fun x => by rw [insR_mem, lu], insR_nd (od.nd _ (List.mem_of_getElem? erb')) (no (List.mem_of_getElem? erb'))⟩, fun z => (z (.inr rfl)).elim⟩
                · rw [List.getElem?_set_ne c1] at e'
                  by_cases c2 : pl.toNat = i'
                  · subst c2
                    rw [List.getElem?_set_self (by omega)] at e'
                    cases e'
                    exact ⟨row, er, fun _ => ⟨fun x => by rw [insR_mem, lu], insR_nd (od.nd _ (List.mem_of_getElem? er)) (no (List.mem_of_getElem? er))⟩, fun z => (z (.inl rfl)).elim⟩
                  · rw [List.getElem?_set_ne c2] at e'
                    exact ⟨row', e', fun z => (z.elim (fun y => c2 y.symm) fun y => c1 y.symm).elim, fun _ => rfl⟩
      · rw [decide_eq_false h1]
        by_cases h3 : wy = 4
        · refine ⟨.int wy, rfl, rfl, true, (by rw [dec_intF, decide_eq_true h3]), ?_⟩
          refine ⟨.ref O, rfl, O, _, rfl, .inl (SqL.of g.hO), .int most, rfl, _, _, rfl, rfl, _, rfl, ?_⟩
          by_cases h2 : (((A.map V.ref).length : Nat) : Int) < most
          · rw [decide_eq_true h2]
            refine ⟨.ref O, rfl, .inl ⟨rfl, _, SqL.of g.hO⟩, Nat.zero_le _, fun p np => ?_⟩
            refine ⟨O, _, _, rfl, rfl, same_new np _ _ g.hO, small1000 (by omega), ?_⟩
            exact ⟨_, _, _, _, _, _, _, us, es, A ++ [p], rs ++ [[]], rfl, g.more np [], ue.more, by rw [List.length_append]; show 1 ≤ _ + 1; omega, by rw [List.length_append]; show (((rs.length + 1 : Nat)) : Int) ≤ most; omega, by omega⟩
          · rw [decide_eq_false h2]
            refine ⟨.ref T, rfl, .ref O, rfl, .int pl, rfl, .int at', rfl, T, O, pl, at', us, es, A, rs, rfl, g.hT, g.hu, g.hO, g.rw', od, by omega, by omega, ⟨p0, p1⟩, ⟨row, er, t0, by omega⟩, fun L ws cs H8 s8 nL hL hw hc lc => ?_⟩
            have lw := Paired.length hw
            refine ⟨L, rfl, ⟨ws, SqL.of hL⟩, fun Z nZ => ?_⟩
            refine lc_list (xs := ws) (fun j H' => ∃ (us' : List V) (cs' : List (Int × Int)), H' Z = some (.lst us') ∧ Paired (PrV H') us' cs' ∧ (∀ c ∈ cs', c.1 ≠ pl ∧ (0 ≤ c.1 ∧ c.1 < (rs.length : Int)) ∧ (0 ≤ c.2 ∧ c.2 ≤ 1000) ∧ ∃ row0, rs[pl.toNat]? = some row0 ∧ row0 ≠ [] ∧ CrOk es rs pl at' row0 c) ∧ us'.length ≤ j ∧ Same H8 H') ⟨[], [], upd_same, .nil, fun c hc => (by cases hc), Nat.le_refl _, same_new nZ⟩ (fun j H' _ h => by
              obtain ⟨_, _, _, _, _, _, s⟩ := h
              exact SqL.of (s _ _ hL)) ?_ ?_
            · rintro j x H9 ex ⟨us', cs', hZ, hu', hc', lu', s9⟩
              have jl := (List.getElem?_eq_some_iff.mp ex).1
              obtain ⟨q0, eq0, c, rfl, hcc⟩ := Paired.at hw ex
              refine ⟨rfl, .ref c, rfl, c, _, 0, .int q0.1, rfl, rfl, SqT.of (s9 _ _ hcc), rfl, .int pl, rfl, rfl, _, rfl, ?_⟩
              rw [dec_intF]
              by_cases e : q0.1 = pl
              · rw [decide_eq_true e]
                exact ⟨us', cs', hZ, hu', hc', by omega, s9⟩
              · rw [decide_eq_false e]
                have tk := tk_lst (ys := us' ++ [.ref c]) hZ
                refine ⟨.ref c, rfl, _, hZ, small1000 (by omega), us' ++ [.ref c], cs' ++ [q0], upd_same, Paired.snoc (pr_tk tk hu') ⟨c, rfl, tk _ _ (s9 _ _ hcc)⟩, fun z hz => ?_, by rw [List.length_append]; show _ + 1 ≤ _; omega, Same.mut s9 nZ⟩
                rcases List.mem_append.mp hz with h | h
                · exact hc' z h
                · rw [List.mem_singleton.mp h]
                  exact ⟨e, (hc q0 (List.mem_of_getElem? eq0)).1.1, (hc q0 (List.mem_of_getElem? eq0)).1.2, (hc q0 (List.mem_of_getElem? eq0)).2 e⟩
            · rintro H9 ⟨us', cs', hZ, hu', hc', lu', s9⟩
              have g9 := (g.same s8).same s9
              refine ⟨.ref Z, rfl, Nat.zero_le _, fun E nE => ⟨Z, E, _, rfl, rfl, SqL.of (same_new nE _ _ hZ), SqL.of upd_same, _, rfl, ?_⟩⟩
              have sE := same_new (o := .lst []) nE
              have gE := g9.same sE
              have hZE := sE _ _ hZ
              have huE := pr_tk (Same.tk sE) hu'
              generalize upd H9 E (.lst []) = H10 at gE hZE huE
              by_cases en : us' = []
              · rw [en]
                exact ⟨_, _, _, _, _, _, _, us, es, A, rs, rfl, gE, ue, r1, r50, by omega⟩
              · rw [show (!us'.isEmpty) = true from by cases us'; exact absurd rfl en; rfl]
                have lpos := List.length_pos_iff.mpr en
                have Zd : Z ≠ d := (g.dk.same s8).ned nZ
                refine ⟨.ref Z, rfl, .ref d, rfl, .ref Z, rfl, Z, us', rfl, .inl (SqL.of hZE), d, _, rfl, gE.dk, by omega, by omega, fun v H11 v0 v1 D11 K11 => ?_⟩
                have g11 := gE.take K11 D11
                have hu11 := pr_tk (gE.dk.tk K11) huE
                obtain ⟨u, e2, e3⟩ := getI v0 v1
                obtain ⟨q0, eq0, c, rfl, hcc⟩ := Paired.at hu11 e3
                obtain ⟨qn, qb, qa, qcr⟩ := hc' q0 (List.mem_of_getElem? eq0)
                refine ⟨Z, us', v, .ref c, rfl, rfl, SqL.of (K11 _ _ Zd Zd hZE), e2, c, _, rfl, SqT.of hcc, rfl, _, _, rfl, _, _, rfl, rfl, ?_⟩
                clear gE g9 hu11 huE hZE hcc D11 K11
                obtain ⟨ra1, row1, ea1, e11, er1, hra1⟩ := g11.at' p0 p1
                rw [er] at er1
                cases er1
                refine ⟨.ref O, rfl, .int pl, rfl, O, _, pl, .ref ra1, rfl, rfl, SqL.of g11.hO, e11, .inl ⟨rfl, _, SqL.of hra1⟩, .int at', rfl, .ref T, rfl, T, us, rfl, .inl (SqL.of g11.hT), ra1, _, at', _, rfl, rfl, hra1, small1000 (by rw [List.length_map]; omega), t0, by omega, ?_⟩
                rw [insR_map]
                have g12 := g11.row ea1 hra1 (insR row at'.toNat (us.length : Nat))
                generalize upd H11 ra1 (.lst ((insR row at'.toNat (us.length : Nat)).map V.int)) = H12 at g12
                obtain ⟨rb, rowb, eb, e1b, erb, hrb⟩ := g12.at' qb.1 (by rw [List.length_set]; exact qb.2)
                have ne1 : pl.toNat ≠ q0.1.toNat := by omega
                have erb' := erb
                rw [List.getElem?_set_ne ne1] at erb'
                have lrb := od.row_len (List.mem_of_getElem? erb')
                refine ⟨.ref O, rfl, .int q0.1, rfl, O, _, q0.1, .ref rb, rfl, rfl, SqL.of g12.hO, e1b, .inl ⟨rfl, _, SqL.of hrb⟩, .int q0.2, rfl, .ref T, rfl, T, us, rfl, .inl (SqL.of g12.hT), rb, _, q0.2, _, rfl, rfl, hrb, small1000 (by rw [List.length_map]; omega), qa.1, by omega, ?_⟩
                rw [insR_map]
                have g13 := g12.row eb hrb (insR rowb q0.2.toNat (us.length : Nat))
                generalize upd H12 rb (.lst ((insR rowb q0.2.toNat (us.length : Nat)).map V.int)) = H13 at g13
                refine ⟨.ref T, rfl, .inl ⟨rfl, _, SqL.of g13.hT⟩, .int pl, rfl, .int q0.1, rfl, by show 2 ≤ sizeLine; decide, fun c' nc => ?_⟩
                have sc := same_new (o := .tup [.int pl, .int q0.1]) nc
                have g14 := (g13.same sc).tie (c := c') upd_same
                refine ⟨T, us, _, rfl, rfl, (g13.same sc).hT, small1000 (by omega), ?_⟩
                refine ⟨_, _, _, _, _, _, _, us ++ [.ref c'], es ++ [(pl, q0.1)], A, _, rfl, g14, ?_, by rw [List.length_set, List.length_set]; exact r1, by rw [List.length_set, List.length_set]; exact r50, by rw [List.length_append]; show _ + 1 ≤ _; omega⟩
                have lk := od.link (rs' := (rs.set pl.toNat (insR row at'.toNat (us.length : Nat))).set q0.1.toNat (insR rowb q0.2.toNat (us.length : Nat))) (p := pl.toNat) (q := q0.1.toNat) (by rw [List.length_set, List.length_set]) (by omega) (by omega) ne1 (fun i' row' e' => ?_)
                · rw [show ((pl.toNat : Nat) : Int) = pl by omega, show ((q0.1.toNat : Nat) : Int) = q0.1 by omega] at lk
                  exact ue.link (m := ((us.length : Nat) : Int)) p0 qb.1 lk ne1 er (by omega) qcr erb' (by rw [lu]) rfl
                · have no : ∀ {r : List Int}, r ∈ rs → ((us.length : Nat) : Int) ∉ r := fun hr z => by
                    have := (od.row_in hr _ z).2
                    omega
                  by_cases c1 : q0.1.toNat = i'
                  · subst c1
                    rw [List.getElem?_set_self (by rw [List.length_set]; omega)] at e'
                    cases e'
                    refine ⟨rowb, erb', fun _ => ⟨fun x => by rw [insR_mem, lu], insR_nd (od.nd _ (List.mem_of_getElem? erb')) (no (List.mem_of_getElem? erb'))⟩, fun z => (z (.inr rfl)).elim⟩
                  · rw [List.getElem?_set_ne c1] at e'
                    by_cases c2 : pl.toNat = i'
                    · subst c2
                      rw [List.getElem?_set_self (by omega)] at e'
                      cases e'
                      exact ⟨row, er, fun _ => ⟨fun x => by rw [insR_mem, lu], insR_nd (od.nd _ (List.mem_of_getElem? er)) (no (List.mem_of_getElem? er))⟩, fun z => (z (.inl rfl)).elim⟩
                    · rw [List.getElem?_set_ne c2] at e'
                      exact ⟨row', e', fun z => (z.elim (fun y => c2 y.symm) fun y => c1 y.symm).elim, fun _ => rfl⟩
        · refine ⟨.int wy, rfl, rfl, false, (by rw [dec_intF, decide_eq_false h3]), ?_⟩
          refine ⟨.ref T, rfl, .ref O, rfl, .int pl, rfl, .int at', rfl, T, O, pl, at', us, es, A, rs, rfl, g.hT, g.hu, g.hO, g.rw', od, by omega, by omega, ⟨p0, p1⟩, ⟨row, er, t0, by omega⟩, fun L ws cs H8 s8 nL hL hw hc lc => ?_⟩
          have lw := Paired.length hw
          refine ⟨L, rfl, ⟨ws, SqL.of hL⟩, fun Z nZ => ?_⟩
          refine lc_list (xs := ws) (fun j H' => ∃ (us' : List V) (cs' : List (Int × Int)), H' Z = some (.lst us') ∧ Paired (PrV H') us' cs' ∧ (∀ c ∈ cs', c.1 ≠ pl ∧ (0 ≤ c.1 ∧ c.1 < (rs.length : Int)) ∧ (0 ≤ c.2 ∧ c.2 ≤ 1000) ∧ ∃ row0, rs[pl.toNat]? = some row0 ∧ row0 ≠ [] ∧ CrOk es rs pl at' row0 c) ∧ us'.length ≤ j ∧ Same H8 H') ⟨[], [], upd_same, .nil, fun c hc => (by cases hc), Nat.le_refl _, same_new nZ⟩ (fun j H' _ h => by
            obtain ⟨_, _, _, _, _, _, s⟩ := h
            exact SqL.of (s _ _ hL)) ?_ ?_
          · rintro j x H9 ex ⟨us', cs', hZ, hu', hc', lu', s9⟩
            have jl := (List.getElem?_eq_some_iff.mp ex).1
            obtain ⟨q0, eq0, c, rfl, hcc⟩ := Paired.at hw ex
            refine ⟨rfl, .ref c, rfl, c, _, 0, .int q0.1, rfl, rfl, SqT.of (s9 _ _ hcc), rfl, .int pl, rfl, rfl, _, rfl, ?_⟩
            rw [dec_intF]
            by_cases e : q0.1 = pl
            · rw [decide_eq_true e]
              exact ⟨us', cs', hZ, hu', hc', by omega, s9⟩
            · rw [decide_eq_false e]
              have tk := tk_lst (ys := us' ++ [.ref c]) hZ
              refine ⟨.ref c, rfl, _, hZ, small1000 (by omega), us' ++ [.ref c], cs' ++ [q0], upd_same, Paired.snoc (pr_tk tk hu') ⟨c, rfl, tk _ _ (s9 _ _ hcc)⟩, fun z hz => ?_, by rw [List.length_append]; show _ + 1 ≤ _; omega, Same.mut s9 nZ⟩
              rcases List.mem_append.mp hz with h | h
              · exact hc' z h
              · rw [List.mem_singleton.mp h]
                exact ⟨e, (hc q0 (List.mem_of_getElem? eq0)).1.1, (hc q0 (List.mem_of_getElem? eq0)).1.2, (hc q0 (List.mem_of_getElem? eq0)).2 e⟩
          · rintro H9 ⟨us', cs', hZ, hu', hc', lu', s9⟩
            have g9 := (g.same s8).same s9
            refine ⟨.ref Z, rfl, Nat.zero_le _, fun E nE => ⟨Z, E, _, rfl, rfl, SqL.of (same_new nE _ _ hZ), SqL.of upd_same, _, rfl, ?_⟩⟩
            have sE := same_new (o := .lst []) nE
            have gE := g9.same sE
            have hZE := sE _ _ hZ
            have huE := pr_tk (Same.tk sE) hu'
            generalize upd H9 E (.lst []) = H10 at gE hZE huE
            by_cases en : us' = []
            · rw [en]
              exact ⟨_, _, _, _, _, _, _, us, es, A, rs, rfl, gE, ue, r1, r50, by omega⟩
            · rw [show (!us'.isEmpty) = true from by cases us'; exact absurd rfl en; rfl]
              have lpos := List.length_pos_iff.mpr en
              have Zd : Z ≠ d := (g.dk.same s8).ned nZ
              refine ⟨.ref Z, rfl, .ref d, rfl, .ref Z, rfl, Z, us', rfl, .inl (SqL.of hZE), d, _, rfl, gE.dk, by omega, by omega, fun v H11 v0 v1 D11 K11 => ?_⟩
              have g11 := gE.take K11 D11
              have hu11 := pr_tk (gE.dk.tk K11) huE
              obtain ⟨u, e2, e3⟩ := getI v0 v1
              obtain ⟨q0, eq0, c, rfl, hcc⟩ := Paired.at hu11 e3
              obtain ⟨qn, qb, qa, qcr⟩ := hc' q0 (List.mem_of_getElem? eq0)
              refine ⟨Z, us', v, .ref c, rfl, rfl, SqL.of (K11 _ _ Zd Zd hZE), e2, c, _, rfl, SqT.of hcc, rfl, _, _, rfl, _, _, rfl, rfl, ?_⟩
              clear gE g9 hu11 huE hZE hcc D11 K11
              obtain ⟨ra1, row1, ea1, e11, er1, hra1⟩ := g11.at' p0 p1
              rw [er] at er1
              cases er1
              refine ⟨.ref O, rfl, .int pl, rfl, O, _, pl, .ref ra1, rfl, rfl, SqL.of g11.hO, e11, .inl ⟨rfl, _, SqL.of hra1⟩, .int at', rfl, .ref T, rfl, T, us, rfl, .inl (SqL.of g11.hT), ra1, _, at', _, rfl, rfl, hra1, small1000 (by rw [List.length_map]; omega), t0, by omega, ?_⟩
              rw [insR_map]
              have g12 := g11.row ea1 hra1 (insR row at'.toNat (us.length : Nat))
              generalize upd H11 ra1 (.lst ((insR row at'.toNat (us.length : Nat)).map V.int)) = H12 at g12
              obtain ⟨rb, rowb, eb, e1b, erb, hrb⟩ := g12.at' qb.1 (by rw [List.length_set]; exact qb.2)
              have ne1 : pl.toNat ≠ q0.1.toNat := by omega
              have erb' := erb
              rw [List.getElem?_set_ne ne1] at erb'
              have lrb := od.row_len (List.mem_of_getElem? erb')
              refine ⟨.ref O, rfl, .int q0.1, rfl, O, _, q0.1, .ref rb, rfl, rfl, SqL.of g12.hO, e1b, .inl ⟨rfl, _, SqL.of hrb⟩, .int q0.2, rfl, .ref T, rfl, T, us, rfl, .inl (SqL.of g12.hT), rb, _, q0.2, _, rfl, rfl, hrb, small1000 (by rw [List.length_map]; omega), qa.1, by omega, ?_⟩
              rw [insR_map]
              have g13 := g12.row eb hrb (insR rowb q0.2.toNat (us.length : Nat))
              generalize upd H12 rb (.lst ((insR rowb q0.2.toNat (us.length : Nat)).map V.int)) = H13 at g13
              refine ⟨.ref T, rfl, .inl ⟨rfl, _, SqL.of g13.hT⟩, .int pl, rfl, .int q0.1, rfl, by show 2 ≤ sizeLine; decide, fun c' nc => ?_⟩
              have sc := same_new (o := .tup [.int pl, .int q0.1]) nc
              have g14 := (g13.same sc).tie (c := c') upd_same
              refine ⟨T, us, _, rfl, rfl, (g13.same sc).hT, small1000 (by omega), ?_⟩
              refine ⟨_, _, _, _, _, _, _, us ++ [.ref c'], es ++ [(pl, q0.1)], A, _, rfl, g14, ?_, by rw [List.length_set, List.length_set]; exact r1, by rw [List.length_set, List.length_set]; exact r50, by rw [List.length_append]; show _ + 1 ≤ _; omega⟩
              have lk := od.link (rs' := (rs.set pl.toNat (insR row at'.toNat (us.length : Nat))).set q0.1.toNat (insR rowb q0.2.toNat (us.length : Nat))) (p := pl.toNat) (q := q0.1.toNat) (by rw [List.length_set, List.length_set]) (by omega) (by omega) ne1 (fun i' row' e' => ?_)
              · rw [show ((pl.toNat : Nat) : Int) = pl by omega, show ((q0.1.toNat : Nat) : Int) = q0.1 by omega] at lk
                exact ue.link (m := ((us.length : Nat) : Int)) p0 qb.1 lk ne1 er (by omega) qcr erb' (by rw [lu]) rfl
              · have no : ∀ {r : List Int}, r ∈ rs → ((us.length : Nat) : Int) ∉ r := fun hr z => by
                  have := (od.row_in hr _ z).2
                  omega
                by_cases c1 : q0.1.toNat = i'
                · subst c1
                  rw [List.getElem?_set_self (by rw [List.length_set]; omega)] at e'
                  cases e'
                  refine ⟨rowb, erb', fun _ => ⟨fun x => by rw [insR_mem, lu], insR_nd (od.nd _ (List.mem_of_getElem? erb')) (no (List.mem_of_getElem? erb'))⟩, fun z => (z (.inr rfl)).elim⟩
                · rw [List.getElem?_set_ne c1] at e'
                  by_cases c2 : pl.toNat = i'
                  · subst c2
                    rw [List.getElem?_set_self (by omega)] at e'
                    cases e'
                    exact ⟨row, er, fun _ => ⟨fun x => by rw [insR_mem, lu], insR_nd (od.nd _ (List.mem_of_getElem? er)) (no (List.mem_of_getElem? er))⟩, fun z => (z (.inl rfl)).elim⟩
                  · rw [List.getElem?_set_ne c2] at e'
                    exact ⟨row', e', fun z => (z.elim (fun y => c2 y.symm) fun y => c1 y.symm).elim, fun _ => rfl⟩
    · rintro σ' H4 ⟨y5, y6, y7, y8, y9, y11, y12, us, es, A, rs, rfl, g, ue, r1, r50, le⟩
      have od := ue.od
      refine ⟨.ref T, rfl, .ref O, rfl, by show 2 ≤ sizeLine; decide, fun r nr => ?_⟩
      exact q r T O us es A rs _ upd_same (g.same (same_new nr)) od ue r1 r50 (by omega)
end
/-! ### flats: sorted(d), the keys of d pairs of ints -/
def kPr (H : Hp) (v : Value) : Int × Int := match v with
  | .ref t => (match H t with
    | some (.tup [.int x, .int y]) => (x, y)
    | _ => (0, 0))
  | _ => (0, 0)
section
variable {X : Cx}
theorem call_sortedDP (hcalm : X.calm = true) : CallR X (.builtin "sorted") (fun xs H Q => ∃ (a : Addr) (kvs : List (List Key × V)) (bs : List St2), xs = [.ref a] ∧ H a = some (.dT kvs) ∧ Paired (BhV H) kvs bs ∧
    ∀ (ys : List V) (zs : List (Int × Int)) (p : Addr), Paired (PrV H) ys zs → zs.Perm (bs.map (·.1)) → zs.Pairwise (fun x y => SrtO.lexB y x = false) → H p = none → Q (.ref p) (upd H p (.lst ys))) := by
  intro pins s σ H xs us Q I r q
  obtain ⟨a, kvs, bs, ex, hd, hb, q⟩ := q
  subst ex
  obtain ⟨u, eu, rx⟩ := vals1 r
  subst eu
  cases rx
  obtain ⟨z, lo, ms, pr, o', es, ep, ho, hx, hdt, he, _⟩ := (show ObjOk X.prog X.w H s.heap a (.dT kvs) from I.hok a _ hd)
  have hraw : s.heap.DictRaw a es ep := ⟨o', ho, hx, hdt⟩
  have lE : es.size = kvs.length := by
    have l1 : es.size = ms.length := size_of_entries he
    have l2 : kvs.length = ms.length := Paired.length pr
    omega
  have lB : kvs.length = bs.length := Paired.length hb
  have ent : ∀ (i : Nat) (b : St2), bs[i]? = some b → ∃ (en : DictEntry) (t : Addr), es[i]? = some en ∧ en.key = .ref t ∧ H t = some (.tup [.int b.1.1, .int b.1.2]) := fun i b e => by
    obtain ⟨kv, ekv, h1, _⟩ := Paired.at' hb e
    obtain ⟨m, hm, e1, e2, _⟩ := paired_get pr ekv
    have g := entry_at he i
    rw [hm] at g
    rw [h1] at e2
    exact ⟨_, m.2.1, g, rfl, e2⟩
  refine Calls.call_function_entry PyProof.Rows.kind_sorted PyProof.Rows.plain_sorted PyProof.Rows.entry_sorted (PyProof.Rows.args_sorted1 _) ?_
  unfold Builtin.«sorted»
  refine wpAny_bind (m := checkCount "sorted" 1 1 _) (wpAny_pure ?_)
  refine wpAny_bind (PySem.W.kdu_collect (A := X.A.in1) (KdlSrc.rawDict lo) (I.ok.hd hcalm) hraw (by rw [lE]; exact z) fun h' tk acc hk hacc => ?_)
  have hal : acc.toList.length = bs.length := by rw [Array.length_toList, hacc.1, lE, lB]
  have each : ∀ (i : Nat) (b : St2), bs[i]? = some b → ∃ t : Addr, acc.toList[i]? = some (.ref t) ∧ H t = some (.tup [.int b.1.1, .int b.1.2]) := fun i b e => by
    obtain ⟨en, t, e1, e2, e3⟩ := ent i b e
    have il := (List.getElem?_eq_some_iff.mp e).1
    have ea := List.getElem?_eq_getElem (show i < acc.toList.length by omega)
    obtain ⟨hi, hv⟩ := hacc.2 i acc.toList[i] (by rw [← Array.getElem?_toList]; exact ea)
    have e4 : es[i] = en := by
      rw [Array.getElem?_eq_getElem hi] at e1
      exact Option.some.inj e1
    rw [e4, e2] at hv
    exact ⟨t, by rw [ea, hv], e3⟩
  have inv : ∀ v ∈ acc.toList, ∃ (t : Addr) (b : St2), v = .ref t ∧ H t = some (.tup [.int b.1.1, .int b.1.2]) ∧ kPr H v = b.1 := fun v hv => by
    obtain ⟨i, hi⟩ := List.getElem?_of_mem hv
    have il := (List.getElem?_eq_some_iff.mp hi).1
    obtain ⟨t, e1, e2⟩ := each i _ (List.getElem?_eq_getElem (show i < bs.length by omega))
    rw [hi] at e1
    obtain rfl := Option.some.inj e1
    exact ⟨t, _, rfl, e2, by unfold kPr; simp only [e2]⟩
  have em : acc.toList.map (kPr H) = bs.map (·.1) := by
    refine List.ext_getElem? fun i => ?_
    rw [List.getElem?_map, List.getElem?_map]
    by_cases il : i < bs.length
    · obtain ⟨t, e1, e2⟩ := each i _ (List.getElem?_eq_getElem il)
      rw [e1, List.getElem?_eq_getElem il]
      show some (kPr H (.ref t)) = _
      unfold kPr
      simp only [e2]
      rfl
    · rw [List.getElem?_eq_none (by omega), List.getElem?_eq_none (by omega)]
      rfl
  have I1 : Inv X pins σ H { s with heap := h', toks := tk } := I.kept hk
  have hz : acc.toList.length ≤ sizeLine := by omega
  have pair : ∀ v ∈ acc.toList, Srt.IsPair h' v (kPr H v).1 (kPr H v).2 := fun v hv => by
    obtain ⟨t, b, rfl, ht, ek⟩ := inv v hv
    obtain ⟨_, its2, r2, o, ho, hc, n, hd⟩ := I1.hok _ _ ht
    obtain ⟨u1, u2, rfl, ri, rj⟩ := vals2 r2
    obtain ⟨t1, rfl⟩ := ri
    obtain ⟨t2, rfl⟩ := rj
    rw [ek]
    exact ⟨t, o, t1, t2, n, rfl, ho, hc, hd⟩
  refine wpAny_bind (wpAny_newList ?_ hz)
  have hoL : (h'.push (seqObj "list" acc.toList.toArray 0)).get? h'.objs.size = some (seqObj "list" acc.toList.toArray 0) := Heap.get?_push_size _ rfl
  show wpAny _ _ _ _ _ { s with heap := h'.push (seqObj "list" acc.toList.toArray 0), toks := tk }
  refine wpAny_bind (wpAny_holding (wpAny_call_entry PyProof.Rows.slot_list_sort ⟨_, hoL, rfl⟩ PyProof.Rows.entry_list_sort
    (SrtO.list_sort_ord (s := { s with heap := h'.push (seqObj "list" acc.toList.toArray 0), toks := tk }) (SrtO.swo_lex (kPr H)) hoL hz (fun h2 => SrtO.pairs_sortableO (by omega) (fun v hv => (pair v hv).keeps fun b o e _ => Heap.get?_push_of_some _ e) fun o e => ?_) fun out g1 g2 => ⟨_, rfl, ?_⟩) (PyProof.Rows.args_list_sort _)))
  · have e' : some o = some (seqObj "list" acc.toList.toArray 0) := e.symm.trans hoL
    cases e'
    intro c
    exact absurd (Value.type.inj c) (by decide)
  · obtain ⟨e', he'⟩ := PyProof.Rows.sortedHeap_at (vs := acc.toList) (out := out.toArray) hoL
    have hout : ∀ v ∈ out, v ∈ acc.toList := fun v hv => g2.perm.mem_iff.mp hv
    have refs : ∀ v ∈ out, ∃ a, v = Value.ref a := fun v hv => by
      obtain ⟨t, _, e, _⟩ := inv v (hout v hv)
      exact ⟨t, e⟩
    have prs : ∀ l : List Value, (∀ v ∈ l, v ∈ acc.toList) → Paired (PrV H) (l.map backV) (l.map (kPr H)) := fun l => by
      induction l with
      | nil => intro _; exact .nil
      | cons v l ih =>
        intro hl
        obtain ⟨t, b, rfl, ht, ek⟩ := inv v (hl v List.mem_cons_self)
        refine .cons ⟨t, rfl, ?_⟩ (ih fun u hu => hl u (List.mem_cons_of_mem _ hu))
        rw [ek]
        exact ht
    have hlen : (out.map backV).length ≤ sizeLine := by
      rw [List.length_map, g2.perm.length_eq]
      exact hz
    refine wpAny_pure ⟨_, rfl, .ref h'.objs.size, upd H h'.objs.size (.lst (out.map backV)), I1.laid (t' := tk) (fun b u e => ?_) (Nat.le_refl _)
      (show ObjOk X.prog X.w _ _ _ (.lst (out.map backV)) from ⟨hlen, out, e', vals_back refs, he'⟩), rfl, q (out.map backV) (out.map (kPr H)) _ (prs out hout) ?_ ?_ (I1.hok.fresh (Nat.le_refl _))⟩
    · have hb : b < h'.objs.size := Heap.lt_size e
      rw [PyProof.Rows.sortedHeap_old (Nat.ne_of_lt hb) (by rw [size_push']; exact Nat.lt_succ_of_lt hb)]
      exact Heap.get?_push_of_some _ e
    · rw [← em]
      exact g2.perm.map _
    · rw [List.pairwise_map]
      exact g1
end
/-! ### flats: faces_of -/
def kvP (P : List (Int × Int)) : List (List Key × V) := P.map fun q => ([Sum.inl q.1, Sum.inl q.2], V.bl true)
def addP (P : List (Int × Int)) (q : Int × Int) : List (Int × Int) := if q ∈ P then P else P ++ [q]
theorem kvP_val {q : Int × Int} : ∀ {P : List (Int × Int)}, valV (kvP P) [Sum.inl q.1, Sum.inl q.2] = if q ∈ P then some (.bl true) else none
  | [] => rfl
  | p :: P => by
    show valV (([Sum.inl p.1, Sum.inl p.2], V.bl true) :: kvP P) [Sum.inl q.1, Sum.inl q.2] = _
    by_cases e : p = q
    · rw [valV_pos (p := (([Sum.inl p.1, Sum.inl p.2] : List Key), V.bl true)) (by rw [e]), e, if_pos List.mem_cons_self]
    · rw [valV_neg (p := (([Sum.inl p.1, Sum.inl p.2] : List Key), V.bl true)) (fun z => by
        simp only [List.cons.injEq, Sum.inl.injEq, and_true] at z
        exact e (Prod.ext z.1 z.2)), kvP_val (P := P)]
      by_cases h : q ∈ P
      · rw [if_pos h, if_pos (List.mem_cons_of_mem _ h)]
      · rw [if_neg h, if_neg fun z => h ((List.mem_cons.mp z).resolve_left fun y => e y.symm)]
theorem kvP_put {P : List (Int × Int)} {q : Int × Int} : putK (kvP P) [Sum.inl q.1, Sum.inl q.2] (.bl true) = kvP (addP P q) := by
  unfold putK
  rw [valV_any, kvP_val]
  unfold addP
  by_cases h : q ∈ P
  · rw [if_pos h, if_pos h]
    show List.map (fun kv : List Key × V => if kv.1 = [Sum.inl q.1, Sum.inl q.2] then (kv.1, V.bl true) else kv) (kvP P) = _
    unfold kvP
    rw [List.map_map]
    refine List.map_congr_left fun p _ => ?_
    show (if ([Sum.inl p.1, Sum.inl p.2] : List Key) = [Sum.inl q.1, Sum.inl q.2] then (([Sum.inl p.1, Sum.inl p.2] : List Key), V.bl true) else ([Sum.inl p.1, Sum.inl p.2], V.bl true)) = _
    split <;> rfl
  · rw [if_neg h, if_neg h, if_neg (by simp)]
    unfold kvP
    rw [List.map_append]
    rfl
theorem addP_nd {P : List (Int × Int)} {q : Int × Int} (nd : P.Nodup) : (addP P q).Nodup := by
  unfold addP
  split
  · exact nd
  · rename_i h
    exact List.nodup_append.mpr ⟨nd, by simp, fun a ha b hb e => h (by rw [List.mem_singleton.mp hb] at e; exact e ▸ ha)⟩
theorem addP_mem {P : List (Int × Int)} {q x : Int × Int} : x ∈ addP P q ↔ x ∈ P ∨ x = q := by
  unfold addP
  split
  · rename_i h
    exact ⟨.inl, fun z => z.elim id fun e => e ▸ h⟩
  · simp
open Classical in
noncomputable def perB (bs : List St2) (s : Int × Int) : Nat := epsilon fun c => 1 ≤ c ∧ c ≤ bs.length ∧ itF (nxB bs) c s = s ∧ (∀ j, 0 < j → j < c → itF (nxB bs) j s ≠ s) ∧ Cyc bs s ((List.range c).map fun n => itF (nxB bs) n s)
noncomputable def cycB (bs : List St2) (s : Int × Int) : List (Int × Int) := (List.range (perB bs s)).map fun n => itF (nxB bs) n s
theorem Rnd.per {bs : List St2} (r : Rnd bs) {s : Int × Int} (hs : s ∈ bs.map (·.1)) : 1 ≤ perB bs s ∧ perB bs s ≤ bs.length ∧ itF (nxB bs) (perB bs s) s = s ∧ (∀ j, 0 < j → j < perB bs s → itF (nxB bs) j s ≠ s) ∧ Cyc bs s (cycB bs s) :=
  Classical.epsilon_spec (p := fun c => 1 ≤ c ∧ c ≤ bs.length ∧ itF (nxB bs) c s = s ∧ (∀ j, 0 < j → j < c → itF (nxB bs) j s ≠ s) ∧ Cyc bs s ((List.range c).map fun n => itF (nxB bs) n s)) (r.cyc hs)
theorem cycB_len (bs : List St2) (s : Int × Int) : (cycB bs s).length = perB bs s := by
  unfold cycB
  rw [List.length_map, List.length_range]
theorem Rnd.cyc_in {bs : List St2} (r : Rnd bs) {s : Int × Int} (hs : s ∈ bs.map (·.1)) : ∀ x ∈ cycB bs s, x ∈ bs.map (·.1) := fun x hx => by
  unfold cycB at hx
  obtain ⟨n, _, rfl⟩ := List.mem_map.mp hx
  exact r.it hs n
noncomputable def faceStep (bs : List St2) (st : List (List (Int × Int)) × List (Int × Int)) (s : Int × Int) : List (List (Int × Int)) × List (Int × Int) := if s ∈ st.2 then st else (st.1 ++ [cycB bs s], (cycB bs s).foldl addP st.2)
noncomputable def facesG (bs : List St2) (S : List (Int × Int)) : List (List (Int × Int)) × List (Int × Int) := S.foldl (faceStep bs) ([], [])
theorem facesG_snoc (bs : List St2) (S : List (Int × Int)) (s : Int × Int) : facesG bs (S ++ [s]) = faceStep bs (facesG bs S) s := by
  unfold facesG
  rw [List.foldl_append]
  rfl
theorem stepsB_len {es : List (Int × Int)} {rs : List (List Int)} {b : Nat} (h : ∀ row ∈ rs, row.length ≤ b) : ∀ m, (stepsB es rs m).length ≤ b * m
  | 0 => Nat.zero_le _
  | m + 1 => by
    rw [stepsB_succ, List.length_append, stepR_len]
    have := stepsB_len (es := es) h m
    have l : (rs.getD m []).length ≤ b := by
      rw [List.getD_eq_getElem?_getD]
      cases e : rs[m]? with
      | none => exact Nat.zero_le _
      | some row => exact h row (List.mem_of_getElem? e)
    rw [Nat.mul_succ]
    omega
def FcV (H : Hp) (v : V) (ps : List (Int × Int)) : Prop := ∃ a ws, v = .ref a ∧ H a = some (.tup ws) ∧ Paired (PrV H) ws ps
theorem FcV.tk {H H' : Hp} (k : Tk H H') {v : V} {ps : List (Int × Int)} (h : FcV H v ps) : FcV H' v ps := by
  obtain ⟨a, ws, e, h1, h2⟩ := h
  exact ⟨a, ws, e, k _ _ h1, pr_tk k h2⟩
theorem fc_tk {H H' : Hp} (k : Tk H H') {vs : List V} {fs : List (List (Int × Int))} (h : Paired (FcV H) vs fs) : Paired (FcV H') vs fs := Paired.mono (fun _ _ x => x.tk k) h
theorem tk_dT {H : Hp} {D : Addr} {kvs kvs' : List (List Key × V)} (h : H D = some (.dT kvs)) : Tk H (upd H D (.dT kvs')) := fun b zs e => by
  rw [upd_ne (fun z => by rw [z, h] at e; cases e)]
  exact e
def spFaces : Sp := fun vs H Q _ => ∃ (wv : V) (n : Int) (ts : List Tie) (o : Addr) (us : List V) (rs : List (List Int)) (es : List (Int × Int)), vs = [wv, .ref o] ∧ WebAt H wv n ts ∧ H o = some (.tup us) ∧ Paired (IntsV H) us rs ∧ Ord rs es ∧ TwE ts es ∧ rs.length ≤ 4 * 12 + 2 ∧ es.length ≤ 100 ∧ (stepsB es rs rs.length).length ≤ 1000 ∧
  ∀ r vs' S H', Same H H' → S.Perm ((stepsB es rs rs.length).map (·.1)) → S.Pairwise (fun x y => SrtO.lexB y x = false) → H' r = some (.tup vs') → Paired (FcV H') vs' (facesG (stepsB es rs rs.length) S).1 → Q (.ref r) H'
section
variable {P : Program} {w : World} {K : PySem.W.Frag} {mg : Str → Option Value} {base : Heap}
set_option maxHeartbeats 2000000 in
theorem ok_faces_of {f : Addr} {fd : FuncData} (F : Fun K "faces_of" "faces_of" s_faces_of f fd) (M : Free mg) (m_sorted : mg "sorted" = none) (D_steps_behind : Df P w K mg base 1 "steps_behind" ["web", "orders"] spSteps) (D_face_from : Df P w K mg base 1 "face_from" ["first", "behind"] spFace) : FnOk P w K mg base CX0 2 f fd ["web", "orders"] spFaces := by
  obtain ⟨f_steps_behind, fd_steps_behind, G_steps_behind, g_steps_behind, k_steps_behind, b_steps_behind⟩ := D_steps_behind
  obtain ⟨f_face_from, fd_face_from, G_face_from, g_face_from, k_face_from, b_face_from⟩ := D_face_from
  refine F.ok sc_faces_of (fun vs H Q E h => ?_) (fun cdv A outer s H vs Q E hr h => ?_)
  · obtain ⟨wv, n, ts, o, us, rs, es, rfl, _⟩ := h
    rfl
  · obtain ⟨wv, n, ts, o, us, rs, es, rfl, hW, ho, hp, od, tw, lr, le, lS, q⟩ := h
    have hu := room1 hr
    refine ⟨_, (pss_cons (ps_set (i := 2) sc_faces_of.nd rfl (.inl rfl) (pe_call G_steps_behind (hr.mono (by decide)) (by rfl) g_steps_behind k_steps_behind b_steps_behind .nil pass0 (pa_cons (pv 0) (pa_cons (pv 1) pa_nil))))
      (pss_cons (ps_set (i := 3) sc_faces_of.nd rfl (.inl rfl) (pe_lst pa_nil))
      (pss_cons (ps_set (i := 4) sc_faces_of.nd rfl (.inl rfl) pe_dnewT)
      (pss_cons (ps_for PassesOwn.never rfl (pi_list (pe_callB (call_sortedDP rfl) (by rfl) m_sorted (by decide +kernel) (pa_cons (pv 2) pa_nil))) (pg_name (i := 5) sc_faces_of.nd rfl (.inl rfl))
        (pss_one (ps_if (pt_cmp (pc_dnotin hu (pv 5) (pv 4)))
          (pss_cons (ps_set (i := 6) sc_faces_of.nd rfl (.inl rfl) (pe_call G_face_from (hr.mono (by decide)) (by rfl) g_face_from k_face_from b_face_from .nil pass0 (pa_cons (pv 5) (pa_cons (pv 2) pa_nil))))
          (pss_cons (ps_expr (pe_bm PySem.F.plainAttrs_list PySem.F.slot_list_append PySem.F.type_list_append mt_append (pv 3) (pa_cons (pv 6) pa_nil)))
          (pss_one (ps_for PassesOwn.never rfl (pi_tup (pv 6)) (pg_name (i := 7) sc_faces_of.nd rfl (.inl rfl))
            (pss_one (ps_dput hu (pv 4) (pv 7) pe_bl rfl))))))
          pss_nil)))
      (pss_one (ps_ret (pe_callTy call_tuple_of (by rfl) M.tuple (by decide +kernel) (pa_cons (pv 3) pa_nil)))))))), ?_⟩
    refine ⟨wv, rfl, .ref o, rfl, wv, n, ts, o, us, rs, es, rfl, hW, ho, hp, od, tw, by omega, by omega, fun D kvs H1 s1 hD hb => ?_⟩
    have rnd := stepsB_rnd od
    generalize ebs : stepsB es rs rs.length = bs at hb rnd lS
    refine ⟨Nat.zero_le _, fun F0 nF => ?_⟩
    have sF := same_new (o := .lst []) nF
    have hF2 : (upd H1 F0 (.lst [])) F0 = some (.lst []) := upd_same
    have hD2 := sF _ _ hD
    have hb2 := bh_tk (Same.tk sF) hb
    have s2 := s1.trans sF
    have nF0 := s1.free nF
    generalize upd H1 F0 (.lst []) = H2 at hF2 hD2 hb2 s2
    refine fun P0 nP => ?_
    have sP := same_new (o := .dT []) nP
    have hP3 : (upd H2 P0 (.dT [])) P0 = some (.dT (kvP [])) := upd_same
    have hD3 := sP _ _ hD2
    have hF3 := sP _ _ hF2
    have hb3 := bh_tk (Same.tk sP) hb2
    have s3 := s2.trans sP
    have nP0 := s2.free nP
    have FP : F0 ≠ P0 := ne_of_none hF2 nP
    have DP : D ≠ P0 := ne_of_none hD2 nP
    generalize upd H2 P0 (.dT []) = H3 at hP3 hD3 hF3 hb3 s3
    refine ⟨.ref D, rfl, D, kvs, bs, rfl, hD3, hb3, fun ys zs S0 hys hpm hso nS => ⟨S0, rfl, ⟨_, SqL.of upd_same⟩, ?_⟩⟩
    have sS := same_new (o := .lst ys) nS
    have hS4 := upd_same (H := H3) (a := S0) (o := .lst ys)
    have hD4 := sS _ _ hD3
    have hF4 := sS _ _ hF3
    have hP4 := sS _ _ hP3
    have hb4 := bh_tk (Same.tk sS) hb3
    have hy4 := pr_tk (Same.tk sS) hys
    have s4 := s3.trans sS
    have FS : F0 ≠ S0 := ne_of_none hF3 nS
    have PS : P0 ≠ S0 := ne_of_none hP3 nS
    have DF : D ≠ F0 := ne_of_none hD nF
    generalize upd H3 S0 (.lst ys) = H4 at hS4 hD4 hF4 hP4 hb4 hy4 s4
    have lz : zs.length = bs.length := by rw [hpm.length_eq, List.length_map]
    have ly : ys.length = zs.length := Paired.length hys
    clear hys hD3 hF3 hP3 hb3 hD2 hF2 hb2 hD hb
    refine for_list (xs := ys) (fun i σ' H' => ∃ (y5 y6 y7 : Option V) (vs' : List V), σ' = [some wv, some (.ref o), some (.ref D), some (.ref F0), some (.ref P0), y5, y6, y7] ∧ H' D = some (.dT kvs) ∧ Paired (BhV H') kvs bs ∧ H' F0 = some (.lst vs') ∧ Paired (FcV H') vs' (facesG bs (zs.take i)).1 ∧ H' P0 = some (.dT (kvP (facesG bs (zs.take i)).2)) ∧ (facesG bs (zs.take i)).2.Nodup ∧ (∀ q ∈ (facesG bs (zs.take i)).2, q ∈ bs.map (fun b : St2 => b.1)) ∧ vs'.length ≤ i ∧ H' S0 = some (.lst ys) ∧ Paired (PrV H') ys zs ∧ Same H H') ⟨none, none, none, [], rfl, hD4, hb4, hF4, .nil, hP4, List.nodup_nil, fun q hq => (by cases hq), Nat.zero_le _, hS4, hy4, s4⟩ (fun i σ' H' _ h => by
      obtain ⟨_, _, _, _, _, _, _, _, _, _, _, _, _, h, _⟩ := h
      exact SqL.of h) ?_ ?_
    · clear hD4 hb4 hF4 hP4 hS4 hy4 s4
      rintro i x σ' H5 ex ⟨y5, y6, y7, vs', rfl, hD5, hb5, hF5, hv5, hP5, nd5, in5, lv5, hS5, hy5, s5⟩
      have il := (List.getElem?_eq_some_iff.mp ex).1
      obtain ⟨st, est, c, rfl, hc⟩ := Paired.at hy5 ex
      have hst : st ∈ bs.map (·.1) := hpm.mem_iff.mp (List.mem_of_getElem? est)
      have eT : facesG bs (zs.take (i + 1)) = faceStep bs (facesG bs (zs.take i)) st := by
        rw [List.take_add_one, est]
        exact facesG_snoc bs _ st
      generalize facesG bs (zs.take i) = G at eT hv5 hP5 nd5 in5
      refine ⟨.ref c, rfl, .ref P0, rfl, P0, _, rfl, DGet.t (k := [Sum.inl st.1, Sum.inl st.2]) hP5 hc, _, rfl, ?_⟩
      rw [kvP_val]
      by_cases h : st ∈ G.2
      · rw [if_pos h]
        have eG : facesG bs (zs.take (i + 1)) = G := by rw [eT]; unfold faceStep; rw [if_pos h]
        exact ⟨_, _, _, vs', rfl, hD5, hb5, hF5, by rw [eG]; exact hv5, by rw [eG]; exact hP5, by rw [eG]; exact nd5, by rw [eG]; exact in5, by omega, hS5, hy5, s5⟩
      · rw [if_neg h]
        have eG : facesG bs (zs.take (i + 1)) = (G.1 ++ [cycB bs st], (cycB bs st).foldl addP G.2) := by rw [eT]; unfold faceStep; rw [if_neg h]
        have per := rnd.per hst
        refine ⟨.ref c, rfl, .ref D, rfl, c, D, kvs, bs, st, cycB bs st, rfl, hc, hD5, hb5, rnd.nk, per.2.2.2.2, by rw [cycB_len]; omega, fun r ws H6 s6 hr hws => ?_⟩
        have hF6 := s6 _ _ hF5
        refine ⟨.ref F0, rfl, .inl ⟨rfl, _, SqL.of hF6⟩, .ref r, rfl, F0, vs', _, rfl, rfl, hF6, Nat.lt_of_succ_le (Evl.sz_of (by omega)), ?_⟩
        have tk := tk_lst (ys := vs' ++ [.ref r]) hF6
        have tk6 := (Same.tk s6).trans tk
        have hD7 : (upd H6 F0 (.lst (vs' ++ [.ref r]))) D = some (.dT kvs) := by rw [upd_ne DF]; exact s6 _ _ hD5
        have hP7 : (upd H6 F0 (.lst (vs' ++ [.ref r]))) P0 = some (.dT (kvP G.2)) := by rw [upd_ne FP.symm]; exact s6 _ _ hP5
        have hS7 : (upd H6 F0 (.lst (vs' ++ [.ref r]))) S0 = some (.lst ys) := by rw [upd_ne FS.symm]; exact s6 _ _ hS5
        have hF7 : (upd H6 F0 (.lst (vs' ++ [.ref r]))) F0 = some (.lst (vs' ++ [.ref r])) := upd_same
        have hr7 := tk _ _ hr
        have hws7 := pr_tk tk hws
        have hb7 := bh_tk tk6 hb5
        have hv7 : Paired (FcV (upd H6 F0 (.lst (vs' ++ [.ref r])))) (vs' ++ [.ref r]) (G.1 ++ [cycB bs st]) := Paired.snoc (fc_tk tk6 hv5) ⟨r, ws, rfl, hr7, hws7⟩
        have hy7 := pr_tk tk6 hy5
        have s7 : Same H (upd H6 F0 (.lst (vs' ++ [.ref r]))) := Same.mut (s5.trans s6) nF0
        generalize upd H6 F0 (.lst (vs' ++ [.ref r])) = H7 at hD7 hP7 hS7 hF7 hr7 hws7 hb7 hv7 hy7 s7
        have lws : ws.length = (cycB bs st).length := Paired.length hws7
        refine ⟨.ref r, rfl, r, rfl, ⟨_, SqT.of hr7⟩, ?_⟩
        refine for_tup (xs := ws) (fun j σ' H' => ∃ y7 : Option V, σ' = [some wv, some (.ref o), some (.ref D), some (.ref F0), some (.ref P0), some (.ref c), some (.ref r), y7] ∧ H' D = some (.dT kvs) ∧ Paired (BhV H') kvs bs ∧ H' F0 = some (.lst (vs' ++ [.ref r])) ∧ Paired (FcV H') (vs' ++ [.ref r]) (G.1 ++ [cycB bs st]) ∧ H' P0 = some (.dT (kvP (((cycB bs st).take j).foldl addP G.2))) ∧ (((cycB bs st).take j).foldl addP G.2).Nodup ∧ (∀ q ∈ ((cycB bs st).take j).foldl addP G.2, q ∈ bs.map (fun b : St2 => b.1)) ∧ H' S0 = some (.lst ys) ∧ Paired (PrV H') ys zs ∧ H' r = some (.tup ws) ∧ Paired (PrV H') ws (cycB bs st) ∧ Same H H') ⟨_, rfl, hD7, hb7, hF7, hv7, hP7, nd5, in5, hS7, hy7, hr7, hws7, s7⟩ (fun i σ' H' _ h => by
          obtain ⟨_, _, _, _, _, _, _, _, _, _, _, h, _⟩ := h
          exact SqT.of h) ?_ ?_
        · clear hD7 hb7 hF7 hv7 hP7 hS7 hy7 hr7 hws7 s7
          rintro j x σ' H8 ex8 ⟨y7, rfl, hD8, hb8, hF8, hv8, hP8, nd8, in8, hS8, hy8, hr8, hws8, s8⟩
          obtain ⟨q0, eq0, t, rfl, ht⟩ := Paired.at hws8 ex8
          have eJ : ((cycB bs st).take (j + 1)).foldl addP G.2 = addP (((cycB bs st).take j).foldl addP G.2) q0 := by
            rw [List.take_add_one, eq0, List.foldl_append]
            rfl
          generalize ((cycB bs st).take j).foldl addP G.2 = P8 at eJ hP8 nd8 in8
          have lP : P8.length ≤ 1000 := by
            have := sub_lenG nd8 in8
            rw [List.length_map] at this
            omega
          have hlt : (kvP P8).length < sizeLine := by
            unfold kvP
            rw [List.length_map]
            exact Nat.lt_of_succ_le (Evl.sz_of (by omega))
          refine ⟨.ref P0, rfl, .ref t, rfl, P0, _, rfl, DPut.t (k := [Sum.inl q0.1, Sum.inl q0.2]) hP8 ht hlt, ?_⟩
          rw [kvP_put]
          have tkP := tk_dT (kvs' := kvP (addP P8 q0)) hP8
          refine ⟨_, rfl, by rw [upd_ne DP]; exact hD8, bh_tk tkP hb8, by rw [upd_ne FP]; exact hF8, fc_tk tkP hv8, by rw [eJ]; exact upd_same, by rw [eJ]; exact addP_nd nd8, fun x hx => ?_, by rw [upd_ne PS.symm]; exact hS8, pr_tk tkP hy8, tkP _ _ hr8, pr_tk tkP hws8, Same.mut s8 nP0⟩
          rw [eJ, addP_mem] at hx
          rcases hx with z | z
          · exact in8 x z
          · rw [z]
            exact rnd.cyc_in hst q0 (List.mem_of_getElem? eq0)
        · rintro σ' H8 ⟨y7, rfl, hD8, hb8, hF8, hv8, hP8, nd8, in8, hS8, hy8, hr8, hws8, s8⟩
          rw [lws, List.take_length] at hP8 nd8 in8
          exact ⟨_, _, _, vs' ++ [.ref r], rfl, hD8, hb8, hF8, by rw [eG]; exact hv8, by rw [eG]; exact hP8, by rw [eG]; exact nd8, by rw [eG]; exact in8, by rw [List.length_append]; show _ + 1 ≤ _; omega, hS8, hy8, s8⟩
    · rintro σ' H5 ⟨y5, y6, y7, vs', rfl, hD5, hb5, hF5, hv5, hP5, nd5, in5, lv5, hS5, hy5, s5⟩
      rw [ly, List.take_length] at hv5
      refine ⟨.ref F0, rfl, F0, _, rfl, .inl ⟨SqL.of hF5, fun r nr => ?_⟩⟩
      have sr := same_new (o := .tup vs') nr
      rw [← ebs] at hpm hv5
      exact q r vs' zs _ (s5.trans sr) hpm hso upd_same (fc_tk (Same.tk sr) hv5)
end
/-! ### d.update(e) -/
def rUpdate : V → List V → Hp → VK → Prop := fun x vs H Q => ∃ (a b : Addr) (kvs more : List (Key × V)), x = .ref a ∧ vs = [.ref b] ∧ H a = some (.dK kvs) ∧ H b = some (.dK more) ∧ a ≠ b ∧ kvs.length + more.length ≤ sizeLine ∧ Q .non (upd H a (.dK (mergeK kvs more)))
theorem mt_update {X : Cx} : MtR X "dict.update" rUpdate := by
  intro pins s σ H x vs v us Q I rx rv h
  obtain ⟨a, b, kvs, more, ex, ev, e1, e2, ne, hl, q⟩ := h
  subst ex
  subst ev
  obtain rfl : v = Value.ref a := rx
  obtain ⟨u, eu, r1⟩ := vals1 rv
  subst eu
  obtain rfl : u = Value.ref b := r1
  obtain ⟨z1, hd1, vs1, rel1, dd1⟩ := dk_of I.hok e1
  obtain ⟨z2, hd2, vs2, rel2, dd2⟩ := dk_of I.hok e2
  refine call_meetsIn PySem.F.slot_dict_update dd1.typeIs PySem.F.entry_dict_update (PySem.F.args_dict_update_2 _ _) (meets_dict_update (mixKind X.prog X.w) a b ne hd2) ⟨vs1, vs2, dd1, dd2, by rw [← rel1.length, ← rel2.length]; exact hl, fun h' dd' _ hs => ⟨.non, _, ?_, rfl, q⟩⟩
  have he : ∃ q, h'.get? a = some q := let ⟨q, _, _, hq, _⟩ := dd'; ⟨q, hq⟩
  exact d_write (t' := s.toks) I (by rw [e1]; exact True.intro) hs he (dk_new (Nat.le_trans (length_mergeK more kvs) hl) hd1 (rel2.merge rel1) dd')
/-! ### for each place its ties -/
def NbV (H : Hp) (v : V) (p : Nb) : Prop := ∃ a, v = .ref a ∧ H a = some (.tup [.int p.1, .str (kindS p.2)])
theorem NbV.tk {H H' : Hp} (k : Tk H H') {v : V} {p : Nb} (h : NbV H v p) : NbV H' v p := by
  obtain ⟨a, rfl, e⟩ := h
  exact ⟨a, rfl, k _ _ e⟩
structure Around (H : Hp) (L : Addr) (As : List Addr) (N : Nat → List Nb) : Prop where
  at' : H L = some (.lst (As.map V.ref))
  nd : As.Nodup
  each : ∀ j a, As[j]? = some a → ∃ vs, H a = some (.lst vs) ∧ Paired (NbV H) vs (N j)
  out : L ∉ As
theorem Around.same {H H' : Hp} {L : Addr} {As : List Addr} {N : Nat → List Nb} (h : Around H L As N) (s : Same H H') : Around H' L As N :=
  ⟨s _ _ h.at', h.nd, fun j a e => by
    obtain ⟨vs, h1, h2⟩ := h.each j a e
    exact ⟨vs, s _ _ h1, Paired.mono (fun _ _ x => x.tk (Same.tk s)) h2⟩, h.out⟩
theorem Around.put {H : Hp} {L q : Addr} {As : List Addr} {N : Nat → List Nb} (h : Around H L As N) {j : Nat} {a : Addr} {vs : List V} {p : Nb} (ea : As[j]? = some a) (ev : H a = some (.lst vs)) (eq : NbV H (.ref q) p) :
    Around (upd H a (.lst (vs ++ [.ref q]))) L As (fun i => N i ++ if i = j then [p] else []) := by
  have k : Tk H (upd H a (.lst (vs ++ [.ref q]))) := tk_lst ev
  refine ⟨?_, h.nd, fun i b e => ?_, h.out⟩
  · have ne : L ≠ a := fun z => h.out (by rw [z]; exact List.mem_of_getElem? ea)
    rw [upd_ne ne]
    exact h.at'
  · obtain ⟨ws, h1, h2⟩ := h.each i b e
    by_cases hij : i = j
    · subst hij
      rw [ea] at e
      cases e
      rw [ev] at h1
      cases h1
      refine ⟨_, upd_same, ?_⟩
      rw [if_pos rfl]
      exact Paired.snoc (Paired.mono (fun _ _ x => x.tk k) h2) (eq.tk k)
    · have ne : b ≠ a := fun z => hij (by
        subst z
        exact (List.getElem?_inj (List.getElem?_eq_some_iff.mp e).1 h.nd).mp (e.trans ea.symm))
      refine ⟨ws, by rw [upd_ne ne]; exact h1, ?_⟩
      rw [if_neg hij, List.append_nil]
      exact Paired.mono (fun _ _ x => x.tk k) h2
/-- the list that neighbours tells -/
def AroundAt (H : Hp) (v : V) (n : Int) (ts : List Tie) : Prop := ∃ L As, v = .ref L ∧ (As.length : Int) = n ∧ Around H L As (fun j => nbs ts j)
theorem AroundAt.same {H H' : Hp} {v : V} {n : Int} {ts : List Tie} (h : AroundAt H v n ts) (s : Same H H') : AroundAt H' v n ts := by
  obtain ⟨L, As, rfl, h1, h2⟩ := h
  exact ⟨L, As, rfl, h1, h2.same s⟩
def spNeighbours : Sp := fun vs H Q _ => ∃ (v : V) (n : Int) (ts : List Tie), vs = [v] ∧ WebAt H v n ts ∧ WebOk n ts ∧
  ∀ v' H', AroundAt H' v' n ts → Same H H' → Q v' H'
section
variable {P : Program} {w : World} {K : PySem.W.Frag} {mg : Str → Option Value} {base : Heap}
theorem ok_neighbours {f : Addr} {fd : FuncData} (F : Fun K "neighbours" "neighbours" s_neighbours f fd) (M : Free mg) : FnOk P w K mg base CX0 1 f fd ["web"] spNeighbours := by
  refine F.ok sc_neighbours (fun vs H Q E h => ?_) (fun cdv A outer s H vs Q E hr h => ?_)
  · obtain ⟨v, n, ts, rfl, _⟩ := h
    rfl
  · obtain ⟨v, n, ts, rfl, ⟨a, b, us, rfl, ha, hb, hp⟩, ok, q⟩ := h
    refine ⟨_, (pss_cons (ps_asg (pv 0) (pg_tup rfl (pgs_cons (pg_name (i := 1) sc_neighbours.nd rfl (.inl rfl)) (pgs_cons (pg_name (i := 2) sc_neighbours.nd rfl (.inl rfl)) pgs_nil))))
      (pss_cons (ps_setLc (i := 3) (own := [("place", 4)]) (g := gName 4) (tt := tYes) rfl sc_neighbours.nd rfl rfl (sw_true rfl rfl rfl (by decide +kernel)) (pi_range1 (by rfl) M.range (pa_cons (pv 1) pa_nil)) (blkOk_by (N := N_neighbours) (sc := defScope s_neighbours) (own := [("place", 4)]) (by decide +kernel)) (fun _ _ _ _ _ => (pg_name (i := 4) sc_neighbours.nd rfl (.inl rfl))) (fun _ _ _ _ _ => pts_nil) (fun _ _ _ _ _ => (pe_lst pa_nil)))
      (pss_cons (ps_for PassesOwn.never rfl (pi_tup (pv 2)) (pg_tup rfl (pgs_cons (pg_name (i := 5) sc_neighbours.nd rfl (.inl rfl)) (pgs_cons (pg_name (i := 6) sc_neighbours.nd rfl (.inl rfl)) (pgs_cons (pg_name (i := 7) sc_neighbours.nd rfl (.inl rfl)) pgs_nil))))
        (pss_cons (ps_expr (pe_bm PySem.F.plainAttrs_list PySem.F.slot_list_append PySem.F.type_list_append mt_append (pe_ix ix_list (pv 3) (pv 5) (fun _ _ => rfl)) (pa_cons (pe_tup (pa_cons (pv 6) (pa_cons (pv 7) pa_nil))) pa_nil)))
        (pss_one (ps_expr (pe_bm PySem.F.plainAttrs_list PySem.F.slot_list_append PySem.F.type_list_append mt_append (pe_ix ix_list (pv 3) (pv 6) (fun _ _ => rfl)) (pa_cons (pe_tup (pa_cons (pv 5) (pa_cons (pv 7) pa_nil))) pa_nil))))))
      (pss_one (ps_ret (pv 3)))))), ?_⟩
    obtain ⟨k, rfl⟩ : ∃ k : Nat, n = k := ⟨n.toNat, by have := ok.lo; omega⟩
    have hk : k ≤ 40 := by have := ok.hi; omega
    -- many, ties = web
    refine ⟨.ref a, rfl, a, _, rfl, SqT.of ha, rfl, _, _, rfl, _, _, rfl, rfl, ?_⟩
    -- around
    refine ⟨.int k, rfl, k, rfl, by omega, by omega, fun L nL => ?_⟩
    rw [Int.toNat_natCast]
    refine lc_range (lo := 0) (n := k) (fun i H' => ∃ As : List Addr, As.length = i ∧ Around H' L As (fun _ => []) ∧ (∀ x ∈ As, H x = none) ∧ Same H H') ?_ ?_ ?_
    · exact ⟨[], rfl, ⟨upd_same, List.nodup_nil, fun j a e => by simp at e, by simp⟩, fun x hx => by simp at hx, same_new nL⟩
    · rintro i H1 hi ⟨As, hl, hA, hf, s1⟩
      refine ⟨rfl, Nat.zero_le _, fun p np => ?_⟩
      have hA2 := hA.same (same_new (o := .lst []) np)
      refine ⟨_, hA2.at', by rw [List.length_map]; exact small1000 (by omega), As ++ [p], by rw [List.length_append, hl]; rfl, ?_, fun x hx => ?_, Same.mut (s1.trans (same_new np)) nL⟩
      · have npA : p ∉ As := fun z => by
          obtain ⟨j, hj⟩ := List.getElem?_of_mem z
          obtain ⟨vs, h1, _⟩ := hA.each j p hj
          rw [np] at h1
          cases h1
        have npL : p ≠ L := fun z => by
          have h1 := hA.at'
          rw [← z, np] at h1
          cases h1
        refine ⟨by rw [upd_same, List.map_append]; rfl, ?_, fun j x e => ?_, ?_⟩
        · rw [List.nodup_append]
          refine ⟨hA.nd, by simp, fun x hx y hy z => ?_⟩
          rw [List.mem_singleton] at hy
          subst hy
          subst z
          exact npA hx
        · have hx : x ≠ L := fun z => by
            subst z
            rcases List.mem_append.mp (List.mem_of_getElem? e) with h | h
            · exact hA.out h
            · exact npL (List.mem_singleton.mp h).symm
          rcases List.mem_append.mp (List.mem_of_getElem? e) with h | h
          · obtain ⟨j2, e2⟩ := List.getElem?_of_mem h
            obtain ⟨vs, h1, h2⟩ := hA2.each j2 x e2
            cases h2
            exact ⟨[], by rw [upd_ne hx]; exact h1, .nil⟩
          · rw [List.mem_singleton] at h
            subst h
            exact ⟨[], by rw [upd_ne hx]; exact upd_same, .nil⟩
        · intro z
          rcases List.mem_append.mp z with h | h
          · exact hA.out h
          · exact npL (List.mem_singleton.mp h).symm
      · rcases List.mem_append.mp hx with h | h
        · exact hf x h
        · rw [List.mem_singleton.mp h]
          exact s1.free np
    rintro H0 ⟨As, hl, hA, hf, s0⟩
    have nLH : H L = none := nL
    -- the loop
    refine ⟨.ref b, rfl, b, rfl, ⟨_, SqT.of (s0 _ _ hb)⟩, ?_⟩
    have hlen : us.length = ts.length := Paired.length hp
    refine for_tup (xs := us) (fun i σ' H' => ∃ y5 y6 y7 : Option V, σ' = [some (.ref a), some (.int k), some (.ref b), some (.ref L), none, y5, y6, y7] ∧ Around H' L As (fun j => nbs (ts.take i) j) ∧ Same H H') ?_ ?_ ?_ ?_
    · exact ⟨none, none, none, rfl, hA, s0⟩
    · rintro i σ' H' _ ⟨y5, y6, y7, rfl, hA1, s1⟩
      exact SqT.of (s1 _ _ hb)
    · rintro i x σ' H1 ex ⟨y5, y6, y7, rfl, hA1, s1⟩
      obtain ⟨t, et, c, rfl, hc⟩ := Paired.at hp ex
      have okt := ok.ok t (List.mem_of_getElem? et)
      have hti := (List.getElem?_eq_some_iff.mp et).1
      have etk : ts.take (i + 1) = ts.take i ++ [t] := by
        rw [List.take_add_one, et]
        rfl
      have hts := ok.few
      refine ⟨c, _, rfl, SqT.of (s1 _ _ hc), rfl, _, _, rfl, _, _, rfl, _, _, rfl, rfl, ?_⟩
      obtain ⟨o1, o2, o3, o4, o5⟩ := okt
      -- the first
      obtain ⟨x1, e1, e1'⟩ := getI (xs := As) o1 (by omega)
      obtain ⟨vs1, g1, p1⟩ := hA1.each _ _ e1'
      have l1 := Paired.length p1
      have l1' := nbs_len (ts.take i) (t.one.toNat : Int)
      rw [List.length_take] at l1'
      refine ⟨.ref L, rfl, .int t.one, rfl, L, _, t.one, .ref x1, rfl, rfl, SqL.of hA1.at', ?_, .inl ⟨rfl, _, SqL.of g1⟩, .int t.other, rfl, .str (kindS t.foe), rfl, by show 2 ≤ sizeLine; decide, fun p np => ?_⟩
      · exact atI_of o1 (by rw [List.getElem?_map, e1']; rfl)
      have A2 := hA1.same (same_new (o := .tup [.int t.other, .str (kindS t.foe)]) np)
      refine ⟨x1, vs1, _, rfl, rfl, same_new np _ _ g1, small1000 (by omega), ?_⟩
      have A3 := A2.put e1' (same_new np _ _ g1) (q := p) (p := (t.other, t.foe)) ⟨p, rfl, upd_same⟩
      have s3 : Same H (upd (upd H1 p (.tup [.int t.other, .str (kindS t.foe)])) x1 (.lst (vs1 ++ [.ref p]))) := Same.mut (s1.trans (same_new np)) (hf _ (List.mem_of_getElem? e1'))
      generalize upd (upd H1 p (.tup [.int t.other, .str (kindS t.foe)])) x1 (.lst (vs1 ++ [.ref p])) = H3 at A3 s3
      -- the second
      obtain ⟨x2, e2, e2'⟩ := getI (xs := As) o3 (by omega)
      obtain ⟨vs2, g2, p2⟩ := A3.each _ _ e2'
      have l2 := Paired.length p2
      rw [List.length_append] at l2
      have l2' := nbs_len (ts.take i) (t.other.toNat : Int)
      rw [List.length_take] at l2'
      have l2'' : (if t.other.toNat = t.one.toNat then [(t.other, t.foe)] else []).length ≤ 1 := by split <;> simp
      refine ⟨.ref L, rfl, .int t.other, rfl, L, _, t.other, .ref x2, rfl, rfl, SqL.of A3.at', ?_, .inl ⟨rfl, _, SqL.of g2⟩, .int t.one, rfl, .str (kindS t.foe), rfl, by show 2 ≤ sizeLine; decide, fun p' np' => ?_⟩
      · exact atI_of o3 (by rw [List.getElem?_map, e2']; rfl)
      have A4 := A3.same (same_new (o := .tup [.int t.one, .str (kindS t.foe)]) np')
      refine ⟨x2, vs2, _, rfl, rfl, same_new np' _ _ g2, small1000 (by omega), ?_⟩
      have A5 := A4.put e2' (same_new np' _ _ g2) (q := p') (p := (t.one, t.foe)) ⟨p', rfl, upd_same⟩
      refine ⟨_, _, _, rfl, ?_, Same.mut (s3.trans (same_new np')) (hf _ (List.mem_of_getElem? e2'))⟩
      refine ⟨A5.at', A5.nd, fun j z ez => ?_, A5.out⟩
      obtain ⟨ws, w1, w2⟩ := A5.each j z ez
      refine ⟨ws, w1, ?_⟩
      rw [etk, nbs_snoc]
      have en : nb1 t j = (if j = t.one.toNat then [(t.other, t.foe)] else []) ++ (if j = t.other.toNat then [(t.one, t.foe)] else []) := by
        unfold nb1
        congr 1
        · by_cases h : j = t.one.toNat
          · rw [if_pos h, if_pos (by omega)]
          · rw [if_neg h, if_neg (by omega)]
        · by_cases h : j = t.other.toNat
          · rw [if_pos h, if_pos (by omega)]
          · rw [if_neg h, if_neg (by omega)]
      rw [en, ← List.append_assoc]
      exact w2
    · rintro σ' H1 ⟨y5, y6, y7, rfl, hA1, s1⟩
      rw [hlen, List.take_length] at hA1
      exact ⟨.ref L, rfl, q _ _ ⟨L, As, rfl, by rw [hl], hA1⟩ s1⟩
end

/-! ### the places that ties lead to -/
def sideI (b : Bool) : Int := if b then 1 else 0
def kvOf (ks : List Nb) : List (Key × V) := ks.map fun p => (Sum.inl p.1, V.int (sideI p.2))
theorem kvOf_none {z : Int} : ∀ {ks : List Nb}, z ∉ ks.map (·.1) → valV (kvOf ks) (Sum.inl z) = none
  | [], _ => rfl
  | p :: ks, h => by
    rw [List.map_cons, List.mem_cons, not_or] at h
    have e := kvOf_none (ks := ks) h.2
    have h1 := h.1
    unfold kvOf at e ⊢
    rw [List.map_cons, valV_neg (fun z => h1 (Sum.inl.inj z).symm)]
    exact e
theorem kvOf_some {z : Int} {b : Bool} : ∀ {ks : List Nb}, (ks.map (·.1)).Nodup → (z, b) ∈ ks → valV (kvOf ks) (Sum.inl z) = some (.int (sideI b))
  | p :: ks, nd, h => by
    rw [List.map_cons, List.nodup_cons] at nd
    rcases List.mem_cons.mp h with e | e
    · subst e
      unfold kvOf
      rw [List.map_cons, valV_pos rfl]
    · have q := kvOf_some (ks := ks) nd.2 e
      have ne : p.1 ≠ z := fun y => nd.1 (by rw [y]; exact List.mem_map.mpr ⟨_, e, rfl⟩)
      unfold kvOf at q ⊢
      rw [List.map_cons, valV_neg (fun y => ne (Sum.inl.inj y))]
      exact q
theorem kvOf_put {ks : List Nb} {z : Int} {b : Bool} (h : z ∉ ks.map (·.1)) : putK (kvOf ks) (Sum.inl z) (.int (sideI b)) = kvOf (ks ++ [(z, b)]) := by
  unfold putK
  rw [if_neg]
  · unfold kvOf
    rw [List.map_append]
    rfl
  · intro g
    rw [List.any_eq_true] at g
    obtain ⟨kv, h1, h2⟩ := g
    unfold kvOf at h1
    rw [List.mem_map] at h1
    obtain ⟨p, hp, rfl⟩ := h1
    exact h (List.mem_map.mpr ⟨p, hp, Sum.inl.inj (of_decide_eq_true h2)⟩)
theorem kvOf_len (ks : List Nb) : (kvOf ks).length = ks.length := by unfold kvOf; rw [List.length_map]
theorem side_xor (b f : Bool) : (if decide (V.str (kindS f) = V.str "friend") = true then sideI b else 1 - sideI b) = sideI (b ^^ f) := by
  cases f
  · cases b <;> rfl
  · cases b <;> rfl
structure SidesOf (ts : List Tie) (s : Int) (ks : List Nb) : Prop where
  nd : (ks.map (·.1)).Nodup
  rp : ∀ p ∈ ks, RP ts s p.1 p.2
  all : ∀ z, z ∈ ks.map (·.1) ↔ Rch ts s z
def spSidesFrom : Sp := fun vs H Q _ => ∃ (v : V) (n : Int) (s : Int) (ts : List Tie), vs = [.int s, v] ∧ AroundAt H v n ts ∧ WebOk n ts ∧ 0 ≤ s ∧ s < n ∧
  ∀ d ks H', H d = none → H' d = some (.dK (kvOf ks)) → Same H H' → SidesOf ts s ks → Q (.ref d) H'
section
variable {P : Program} {w : World} {K : PySem.W.Frag} {mg : Str → Option Value} {base : Heap}
theorem ok_sides_from {f : Addr} {fd : FuncData} (F : Fun K "sides_from" "sides_from" s_sides_from f fd) (M : Free mg) : FnOk P w K mg base CX0 1 f fd ["start", "around"] spSidesFrom := by
  refine F.ok sc_sides_from (fun vs H Q E h => ?_) (fun cdv A outer sh H vs Q E hr h => ?_)
  · obtain ⟨v, n, s, ts, rfl, _⟩ := h
    rfl
  · obtain ⟨v, n, s, ts, rfl, ⟨L, As, rfl, hl, hA⟩, ok, hs0, hs1, q⟩ := h
    have hu := room1 hr
    refine ⟨_, (pss_cons (ps_set (i := 2) sc_sides_from.nd rfl (.inl rfl) (pe_disp (pps_cons (pv 0) pe_int pps_nil) (by rfl) (by rfl) (fun z => by cases z) (by decide)))
      (pss_cons (ps_set (i := 3) sc_sides_from.nd rfl (.inl rfl) (pe_lst (pa_cons (pv 0) pa_nil)))
      (pss_cons (ps_while PassesOwn.never (pt_truth (pv 3) (by intro _; rfl))
        (pss_cons (ps_set (i := 4) sc_sides_from.nd rfl (.inl rfl) (pe_bm0 PySem.F.plainAttrs_list PySem.F.slot_list_pop PySem.F.type_list_pop mt_pop (pv 3)))
        (pss_one (ps_for PassesOwn.never rfl (pi_list (pe_ix ix_list (pv 1) (pv 4) (fun _ _ => rfl))) (pg_tup rfl (pgs_cons (pg_name (i := 5) sc_sides_from.nd rfl (.inl rfl)) (pgs_cons (pg_name (i := 6) sc_sides_from.nd rfl (.inl rfl)) pgs_nil)))
          (pss_one (ps_if (pt_cmp (pc_dnotin hu (pv 5) (pv 2)))
            (Evl.pss_cut (ps_dput hu (pv 2) (pv 5) (pe_ifExp (pt_cmpR op_eq (pv 6) pe_str (nomark _)) (pe_dget hu (pv 2) (pv 4) (fun _ _ => rfl)) (pe_op op_sub pe_int (pe_dget hu (pv 2) (pv 4) (fun _ _ => rfl)))) rfl)
            (pss_one (ps_expr (pe_bm PySem.F.plainAttrs_list PySem.F.slot_list_append PySem.F.type_list_append mt_append (pv 3) (pa_cons (pv 5) pa_nil)))))
            pss_nil))))))
      (pss_one (ps_ret (pv 2)))))), ?_⟩
    obtain ⟨k, rfl⟩ : ∃ k : Nat, n = k := ⟨n.toNat, by have := ok.lo; omega⟩
    have hk : k ≤ 40 := by have := ok.hi; omega
    have hts := ok.few
    -- sides
    refine fun d nd => ⟨.int s, rfl, upd_same, [(Sum.inl s, .int 0)], rfl, (by show 1 ≤ 15; decide), ?_⟩
    have eH : upd (upd H d (.dK [])) d (.dK (mergeK [] [(Sum.inl s, .int 0)])) = upd H d (.dK (kvOf [(s, false)])) := by
      funext b
      by_cases hb : b = d
      · subst hb
        rw [upd_same, upd_same]
        rfl
      · rw [upd_ne hb, upd_ne hb, upd_ne hb]
    rw [eH]
    -- waiting
    refine ⟨.int s, rfl, by show 1 ≤ sizeLine; decide, fun W nW => ?_⟩
    have hdW : W ≠ d := (ne_of_none upd_same nW).symm
    have nWH : H W = none := by rw [upd_ne hdW] at nW; exact nW
    refine ⟨fun m σ' H' => ∃ (y4 y5 y6 : Option V) (ks : List Nb) (wl : List Int), σ' = [some (.int s), some (.ref L), some (.ref d), some (.ref W), y4, y5, y6] ∧ H' d = some (.dK (kvOf ks)) ∧ H' W = some (.lst (wl.map V.int)) ∧ Same H H' ∧ SF ts s ks wl [] ∧ m = 2 * (k - ks.length) + wl.length, ⟨_, none, none, none, [(s, false)], [s], rfl, ?_, upd_same, Same.mut (same_new nd) nWH, ?_, rfl⟩, ?_⟩
    · rw [upd_ne (Ne.symm hdW)]
      exact upd_same
    · exact ⟨by simp, fun p hp => by rw [List.mem_singleton.mp hp]; exact .nil, by simp, fun x hx => hx, Nat.le_refl _, fun x hx h1 => absurd hx h1⟩
    · rintro m σ' H1 ⟨y4, y5, y6, ks, wl, rfl, hd, hW, s1, sf, hm⟩
      refine ⟨.ref W, rfl, _, .inl ⟨_, SqL.of hW, rfl⟩, ?_⟩
      refine ite2 (fun hb => ?_) (fun hb => ?_)
      · -- a place
        cases hwl : wl with
        | nil => rw [hwl] at hb; cases hb
        | cons z zs =>
        obtain ⟨ys, p, e⟩ : ∃ (ys : List Int) (p : Int), z :: zs = ys ++ [p] := ⟨(z :: zs).dropLast, (z :: zs).getLast (by simp), (List.dropLast_concat_getLast (by simp)).symm⟩
        rw [hwl, e] at hW sf hm
        have hpk := sf.sub p (by simp)
        obtain ⟨b, hb1, hb2⟩ := sf.keys hpk
        have hpr := Rch.rng ok.ok ⟨hs0, hs1⟩ ⟨b, hb2⟩
        have sp := sf.pop
        have e3 : ((ys ++ [p]).map V.int).dropLast = ys.map V.int := by simp
        refine ⟨fun σ' H' => ∃ m', m' < m ∧ ∃ (y4 y5 y6 : Option V) (ks : List Nb) (wl : List Int), σ' = [some (.int s), some (.ref L), some (.ref d), some (.ref W), y4, y5, y6] ∧ H' d = some (.dK (kvOf ks)) ∧ H' W = some (.lst (wl.map V.int)) ∧ Same H H' ∧ SF ts s ks wl [] ∧ m' = 2 * (k - ks.length) + wl.length, fun _ _ h => h, ?_⟩
        refine ⟨.ref W, rfl, .inl ⟨rfl, _, SqL.of hW⟩, W, _, .int p, rfl, rfl, hW, by simp, ?_⟩
        rw [e3]
        have hd2 : (upd H1 W (.lst (ys.map V.int))) d = some (.dK (kvOf ks)) := by rw [upd_ne (Ne.symm hdW)]; exact hd
        have hW2 : (upd H1 W (.lst (ys.map V.int))) W = some (.lst (ys.map V.int)) := upd_same
        have s2 : Same H (upd H1 W (.lst (ys.map V.int))) := Same.mut s1 nWH
        generalize upd H1 W (.lst (ys.map V.int)) = H2 at hd2 hW2 s2
        have A2 := hA.same s2
        obtain ⟨x, ex, ex'⟩ := getI (xs := As) hpr.1 (by omega)
        obtain ⟨us, g, pr⟩ := A2.each _ _ ex'
        have epk : ((p.toNat : Nat) : Int) = p := by omega
        rw [epk] at pr
        refine ⟨.ref L, rfl, .int p, rfl, L, _, p, .ref x, rfl, rfl, SqL.of A2.at', atI_of hpr.1 (by rw [List.getElem?_map, ex']; rfl), x, rfl, ⟨_, SqL.of g⟩, ?_⟩
        have gH : H x = some (.lst us) := by
          obtain ⟨us', g', _⟩ := hA.each _ _ ex'
          rw [s2 _ _ g'] at g
          cases g
          exact g'
        refine for_list (xs := us) (fun i σ' H' => ∃ (y5 y6 : Option V) (ks : List Nb) (wl : List Int), σ' = [some (.int s), some (.ref L), some (.ref d), some (.ref W), some (.int p), y5, y6] ∧ H' d = some (.dK (kvOf ks)) ∧ H' W = some (.lst (wl.map V.int)) ∧ Same H H' ∧ SF ts s ks wl [p] ∧ (p, b) ∈ ks ∧ (∀ q ∈ (nbs ts p).take i, q.1 ∈ ks.map (·.1)) ∧ 2 * (k - ks.length) + wl.length < m) ?_ ?_ ?_ ?_
        · exact ⟨y5, y6, ks, ys, rfl, hd2, hW2, s2, sp, hb1, fun q hq => by simp at hq, by rw [hm, List.length_append]; simp⟩
        · rintro i σ' H' _ ⟨y5, y6, ks, wl, rfl, _, _, s3, _⟩
          exact SqL.of (s3 _ _ gH)
        · rintro i u σ' H3 eu ⟨y5, y6, ks, wl, rfl, hd3, hW3, s3, sf3, hb3, hdn, hlt⟩
          have A3 := hA.same s3
          obtain ⟨us', g', pr'⟩ := A3.each _ _ ex'
          rw [s3 _ _ gH] at g'
          cases g'
          rw [epk] at pr'
          obtain ⟨⟨y, fo⟩, ey, c, rfl, hc⟩ := Paired.at pr' eu
          have ady := mem_nbs.mp (List.mem_of_getElem? ey)
          have few := sf3.few ok.ok ⟨hs0, hs1⟩
          have etk : (nbs ts p).take (i + 1) = (nbs ts p).take i ++ [(y, fo)] := by
            rw [List.take_add_one, ey]
            rfl
          refine ⟨c, _, rfl, SqT.of hc, rfl, _, _, rfl, _, _, rfl, rfl, ?_⟩
          refine ⟨.int y, rfl, .ref d, rfl, d, _, rfl, DGet.k (k := Sum.inl y) hd3, _, rfl, ?_⟩
          by_cases hy : y ∈ ks.map (·.1)
          · obtain ⟨yb, yb1, _⟩ := sf3.keys hy
            rw [kvOf_some sf3.nd yb1]
            refine ⟨_, _, ks, wl, rfl, hd3, hW3, s3, sf3, hb3, fun q hq => ?_, hlt⟩
            rw [etk] at hq
            rcases List.mem_append.mp hq with h | h
            · exact hdn q h
            · rw [List.mem_singleton.mp h]
              exact hy
          · rw [kvOf_none hy]
            have sfp := sf3.push (sf3.rp _ hb3) ady hy
            have few2 := sfp.few ok.ok ⟨hs0, hs1⟩
            have lks : (kvOf ks).length < sizeLine := by rw [kvOf_len]; exact small1000 (by omega)
            have vp := kvOf_some sf3.nd hb3
            have ep := kvOf_put (b := b ^^ fo) hy
            refine ⟨fun σ' H' => σ' = [some (.int s), some (.ref L), some (.ref d), some (.ref W), some (.int p), some (.int y), some (.str (kindS fo))] ∧ H' = upd H3 d (.dK (kvOf (ks ++ [(y, b ^^ fo)]))), ?_, ?_⟩
            · refine ⟨.str (kindS fo), rfl, rfl, _, rfl, ?_⟩
              rw [← ep]
              cases fo
              · refine ⟨.ref d, rfl, .int p, rfl, d, _, rfl, (by rw [← vp]; exact DGet.k (k := Sum.inl p) hd3), .ref d, rfl, .int y, rfl, d, _, rfl, DPut.k (k := Sum.inl y) hd3 lks, rfl, ?_⟩
                rw [Bool.xor_false]
              · refine ⟨.ref d, rfl, .int p, rfl, d, _, rfl, (by rw [← vp]; exact DGet.k (k := Sum.inl p) hd3), 1, sideI b, rfl, rfl, .ref d, rfl, .int y, rfl, d, _, rfl, DPut.k (k := Sum.inl y) hd3 lks, rfl, ?_⟩
                cases b <;> rfl
            · rintro σ' H4 ⟨rfl, rfl⟩
              have hW4 : (upd H3 d (.dK (kvOf (ks ++ [(y, b ^^ fo)])))) W = some (.lst (wl.map V.int)) := by rw [upd_ne hdW]; exact hW3
              have lw := sf3.le
              refine ⟨.ref W, rfl, .inl ⟨rfl, _, SqL.of hW4⟩, .int y, rfl, W, _, _, rfl, rfl, hW4, by rw [List.length_map]; exact small1000 (by omega), ?_⟩
              refine ⟨_, _, ks ++ [(y, b ^^ fo)], wl ++ [y], rfl, ?_, by rw [upd_same, List.map_append]; rfl, Same.mut (Same.mut s3 nd) nWH, sfp, List.mem_append_left _ hb3, fun q hq => ?_, ?_⟩
              · rw [upd_ne (Ne.symm hdW)]
                exact upd_same
              · rw [List.map_append]
                rw [etk] at hq
                rcases List.mem_append.mp hq with h | h
                · exact List.mem_append_left _ (hdn q h)
                · rw [List.mem_singleton.mp h]
                  exact List.mem_append_right _ (by simp)
              · rw [List.length_append] at few2 ⊢
                rw [List.length_append]
                simp only [List.length_cons, List.length_nil] at few2 ⊢
                omega
        · rintro σ' H3 ⟨y5, y6, ks, wl, rfl, hd3, hW3, s3, sf3, hb3, hdn, hlt⟩
          rw [Paired.length pr, List.take_length] at hdn
          exact ⟨_, hlt, _, _, _, ks, wl, rfl, hd3, hW3, s3, sf3.done hdn, rfl⟩
      · -- none is left
        have hwl : wl = [] := by
          cases wl with
          | nil => rfl
          | cons z zs => exact absurd rfl hb
        subst hwl
        exact ⟨.ref d, rfl, q d ks H1 nd hd s1 ⟨sf.nd, sf.rp, sf.all⟩⟩
end

/-! ### the parts -/
theorem mem_putK {k z : Key} {v : V} {kvs : List (Key × V)} : z ∈ (putK kvs k v).map (·.1) ↔ z ∈ kvs.map (·.1) ∨ z = k := by
  unfold putK
  split
  · rename_i h
    rw [List.any_eq_true] at h
    obtain ⟨kv, h1, h2⟩ := h
    have h3 := of_decide_eq_true h2
    rw [List.map_map]
    have e : (Prod.fst ∘ fun kv : Key × V => if kv.1 = k then (kv.1, v) else kv) = Prod.fst := by
      funext p
      show (if p.1 = k then (p.1, v) else p).1 = p.1
      split <;> rfl
    rw [show ((fun x : Key × V => x.1) ∘ fun kv : Key × V => if kv.1 = k then (kv.1, v) else kv) = Prod.fst from e]
    constructor
    · exact .inl
    · rintro (h | h)
      · exact h
      · rw [h, ← h3]
        exact List.mem_map.mpr ⟨kv, h1, rfl⟩
  · rw [List.map_append, List.mem_append]
    simp
theorem mem_mergeK {z : Key} : ∀ {more kvs : List (Key × V)}, z ∈ (mergeK kvs more).map (·.1) ↔ z ∈ kvs.map (·.1) ∨ z ∈ more.map (·.1)
  | [], kvs => by
    show z ∈ kvs.map (·.1) ↔ _
    simp
  | p :: r, kvs => by
    have q := mem_mergeK (z := z) (more := r) (kvs := putK kvs p.1 p.2)
    rw [mem_putK] at q
    show z ∈ (mergeK (putK kvs p.1 p.2) r).map (·.1) ↔ _
    rw [q, List.map_cons, List.mem_cons, or_assoc]
theorem valV_isSome {k : Key} : ∀ {kvs : List (Key × V)}, (valV kvs k).isSome = true ↔ k ∈ kvs.map (·.1)
  | [] => by simp [valV_nil]
  | p :: r => by
    by_cases h : p.1 = k
    · rw [valV_pos h, List.map_cons, List.mem_cons]
      simp [h]
    · rw [valV_neg h, List.map_cons, List.mem_cons, valV_isSome]
      constructor
      · exact .inr
      · rintro (e | e)
        · exact absurd e.symm h
        · exact e
theorem kvOf_keys (ks : List Nb) : (kvOf ks).map (·.1) = (ks.map (·.1)).map Sum.inl := by
  unfold kvOf
  rw [List.map_map, List.map_map]
  rfl
theorem lead_iff {ts : List Tie} {n : Nat} (ok : ∀ t ∈ ts, TieOk n t) {i : Int} (h0 : 0 ≤ i ∧ i < n) : leader ts i ↔ ¬ ∃ x, 0 ≤ x ∧ x < i ∧ Rch ts x i := by
  constructor
  · rintro h ⟨x, h1, h2, h3⟩
    have := h x h3.symm
    omega
  · intro h q hq
    rcases Int.lt_or_le q i with l | l
    · exact absurd ⟨q, (hq.rng ok h0).1, l, hq.symm⟩ h
    · exact l
def PartsAt (H : Hp) (v : V) (ps : List (List Int)) : Prop := ∃ a bs, v = .ref a ∧ H a = some (.tup bs) ∧ Paired (IntsV H) bs ps
theorem parts_tk {H H' : Hp} (k : Tk H H') {bs : List V} {ps : List (List Int)} (h : Paired (IntsV H) bs ps) : Paired (IntsV H') bs ps := Paired.mono (fun _ _ x => x.tk k) h
theorem partsTo_len (ts : List Tie) (n i : Nat) : (partsTo ts n i).length ≤ i := by
  induction i with
  | zero => simp [partsTo, rng]
  | succ i ih =>
    rw [partsTo_succ, List.length_append]
    split
    · simp
      omega
    · simp
      omega
def spPartsOf : Sp := fun vs H Q _ => ∃ (v : V) (n : Nat) (ts : List Tie), vs = [v] ∧ WebAt H v n ts ∧ WebOk n ts ∧
  ∀ v' H', Same H H' → PartsAt H' v' (partsTo ts n n) → Q v' H'
section
variable {P : Program} {w : World} {K : PySem.W.Frag} {mg : Str → Option Value} {base : Heap}
theorem ok_parts_of {f : Addr} {fd : FuncData} (F : Fun K "parts_of" "parts_of" s_parts_of f fd) (M : Free mg) (ms : mg "sorted" = none) (D1 : Df P w K mg base 1 "neighbours" ["web"] spNeighbours) (D2 : Df P w K mg base 1 "sides_from" ["start", "around"] spSidesFrom) : FnOk P w K mg base CX0 2 f fd ["web"] spPartsOf := by
  obtain ⟨f1, fd1, G1, g1, k1, b1⟩ := D1
  obtain ⟨f2, fd2, G2, g2, k2, b2⟩ := D2
  refine F.ok sc_parts_of (fun vs H Q E h => ?_) (fun cdv A outer sh H vs Q E hr h => ?_)
  · obtain ⟨v, n, ts, rfl, _⟩ := h
    rfl
  · obtain ⟨v, n, ts, rfl, hw, ok, q⟩ := h
    have hu := room1 hr
    have hk : n ≤ 40 := by have := ok.hi; omega
    refine ⟨_, (pss_cons (ps_set (i := 1) sc_parts_of.nd rfl (.inl rfl) (pe_call G1 hr (by rfl) g1 k1 b1 .nil pass0 (pa_cons (pv 0) pa_nil)))
      (pss_cons (ps_set (i := 2) sc_parts_of.nd rfl (.inl rfl) (pe_lst pa_nil))
      (pss_cons (ps_set (i := 3) sc_parts_of.nd rfl (.inl rfl) pe_dnewK)
      (pss_cons (ps_for PassesOwn.never rfl (pi_range1 (by rfl) M.range (pa_cons (pe_ix ix_tup (pv 0) pe_int (fun _ _ => rfl)) pa_nil)) (pg_name (i := 4) sc_parts_of.nd rfl (.inl rfl))
        (pss_one (ps_if (pt_cmp (pc_dnotin hu (pv 4) (pv 3)))
          (pss_cons (ps_set (i := 5) sc_parts_of.nd rfl (.inl rfl) (pe_call G2 hr (by rfl) g2 k2 b2 .nil pass0 (pa_cons (pv 4) (pa_cons (pv 1) pa_nil))))
          (pss_cons (ps_expr (pe_bm PySem.F.plainAttrs_dict PySem.F.slot_dict_update PySem.F.type_dict_update mt_update (pv 3) (pa_cons (pv 5) pa_nil)))
          (pss_one (ps_expr (pe_bm PySem.F.plainAttrs_list PySem.F.slot_list_append PySem.F.type_list_append mt_append (pv 2) (pa_cons (pe_callTy call_tuple_of (by rfl) M.tuple (by decide +kernel) (pa_cons (pe_callB (call_sortedDI rfl) (by rfl) ms (by decide +kernel) (pa_cons (pv 5) pa_nil)) pa_nil)) pa_nil))))))
          pss_nil)))
      (pss_one (ps_ret (pe_callTy call_tuple_of (by rfl) M.tuple (by decide +kernel) (pa_cons (pv 2) pa_nil)))))))), ?_⟩
    -- around
    refine ⟨v, rfl, v, n, ts, rfl, hw, ok, fun u H1 hA s1 => ?_⟩
    -- parts, placed
    refine ⟨Nat.zero_le _, fun L nL pD nD => ?_⟩
    have hLD : pD ≠ L := (ne_of_none upd_same nD).symm
    have nDH1 : H1 pD = none := by rw [upd_ne hLD] at nD; exact nD
    have nLH : H L = none := s1.free nL
    have nDH : H pD = none := s1.free nDH1
    have sA : Same H1 (upd (upd H1 L (.lst [])) pD (.dK [])) := (same_new nL).trans (same_new nD)
    obtain ⟨a, b, vs, rfl, ha, hb, hp⟩ := hw
    refine ⟨.ref a, rfl, a, _, 0, .int n, rfl, rfl, SqT.of (sA _ _ (s1 _ _ ha)), rfl, n, rfl, by omega, by omega, ?_⟩
    rw [Int.toNat_natCast]
    refine for_range (lo := 0) (n := n) (fun i σ' H' => ∃ (y4 y5 : Option V) (kvs : List (Key × V)) (bs : List V), σ' = [some (.ref a), some u, some (.ref L), some (.ref pD), y4, y5] ∧ H' L = some (.lst bs) ∧ Paired (IntsV H') bs (partsTo ts n i) ∧ H' pD = some (.dK kvs) ∧ kvs.length ≤ 40 * i ∧
      (∀ z, z ∈ kvs.map (·.1) ↔ ∃ y, z = Sum.inl y ∧ ∃ x, 0 ≤ x ∧ x < (i : Int) ∧ Rch ts x y) ∧ Same H1 H') ?_ ?_ ?_
    · refine ⟨none, none, [], [], rfl, by rw [upd_ne (Ne.symm hLD)]; exact upd_same, ?_, upd_same, by simp, fun z => ?_, sA⟩
      · have e0 : partsTo ts n 0 = [] := by simp [partsTo, rng]
        rw [e0]
        exact .nil
      · constructor
        · intro h
          simp at h
        · rintro ⟨y, _, x, h1, h2, _⟩
          omega
    · rintro i σ' H2 hi ⟨y4, y5, kvs, bs, rfl, hL, hP, hD, hlen, hkeys, s2⟩
      rw [show (0 : Int) + (i : Nat) = i from by omega]
      have hir : 0 ≤ (i : Int) ∧ (i : Int) < n := by omega
      have lbs : bs.length ≤ i := by rw [Paired.length hP]; exact partsTo_len ts n i
      refine ⟨.int i, rfl, .ref pD, rfl, pD, _, rfl, DGet.k (k := Sum.inl (i : Int)) hD, _, rfl, ?_⟩
      have nx : ∀ y : Int, (∃ x, 0 ≤ x ∧ x < ((i + 1 : Nat) : Int) ∧ Rch ts x y) ↔ (∃ x, 0 ≤ x ∧ x < (i : Int) ∧ Rch ts x y) ∨ Rch ts i y := fun y => by
        constructor
        · rintro ⟨x, h1, h2, h3⟩
          by_cases e : x = i
          · subst e
            exact .inr h3
          · exact .inl ⟨x, h1, by omega, h3⟩
        · rintro (⟨x, h1, h2, h3⟩ | h)
          · exact ⟨x, h1, by omega, h3⟩
          · exact ⟨i, by omega, by omega, h⟩
      by_cases hin : (valV kvs (Sum.inl (i : Int))).isSome = true
      · rw [hin]
        obtain ⟨y, e, x, h1, h2, h3⟩ := (hkeys _).mp (valV_isSome.mp hin)
        cases e
        have nl : ¬ leader ts (i : Int) := fun z => (lead_iff ok.ok hir).mp z ⟨x, h1, h2, h3⟩
        refine ⟨_, _, kvs, bs, rfl, hL, ?_, hD, by omega, fun z => ?_, s2⟩
        · rw [partsTo_succ, if_neg nl, List.append_nil]
          exact hP
        · rw [hkeys]
          constructor
          · rintro ⟨y, e, h⟩
            exact ⟨y, e, (nx y).mpr (.inl h)⟩
          · rintro ⟨y, e, h⟩
            refine ⟨y, e, ?_⟩
            rcases (nx y).mp h with h | h
            · exact h
            · exact ⟨x, h1, h2, h3.trans h⟩
      · rw [Bool.not_eq_true] at hin
        rw [hin]
        have ld : leader ts (i : Int) := (lead_iff ok.ok hir).mpr fun ⟨x, h1, h2, h3⟩ => by
          have := valV_isSome.mpr ((hkeys (Sum.inl (i : Int))).mpr ⟨_, rfl, x, h1, h2, h3⟩)
          rw [hin] at this
          cases this
        refine ⟨.int i, rfl, u, rfl, u, n, i, ts, rfl, hA.same s2, ok, hir.1, hir.2, fun d ks H3 nd hd s3 so => ?_⟩
        have lks : ks.length ≤ n := by
          have q := pigeon n (ks.map (·.1)) so.nd fun x hx => Rch.rng ok.ok hir ((so.all x).mp hx)
          rw [List.length_map] at q
          exact q
        have hpd : pD ≠ d := ne_of_none hD nd
        have hLd : L ≠ d := ne_of_none hL nd
        -- update
        refine ⟨.ref pD, rfl, .inr (.inr (.inl ⟨rfl, .inl ⟨_, s3 _ _ hD⟩⟩)), .ref d, rfl, pD, d, kvs, kvOf ks, rfl, rfl, s3 _ _ hD, hd, hpd, (by rw [kvOf_len, sizeLine_eq]; omega), ?_⟩
        have hL4 : (upd H3 pD (.dK (mergeK kvs (kvOf ks)))) L = some (.lst bs) := by rw [upd_ne (Ne.symm hLD)]; exact s3 _ _ hL
        have hd4 : (upd H3 pD (.dK (mergeK kvs (kvOf ks)))) d = some (.dK (kvOf ks)) := by rw [upd_ne (Ne.symm hpd)]; exact hd
        have hD4 : (upd H3 pD (.dK (mergeK kvs (kvOf ks)))) pD = some (.dK (mergeK kvs (kvOf ks))) := upd_same
        have s4 : Same H1 (upd H3 pD (.dK (mergeK kvs (kvOf ks)))) := Same.mut (s2.trans s3) nDH1
        have t4 : Tk H2 (upd H3 pD (.dK (mergeK kvs (kvOf ks)))) := fun c xs e => by
          rw [upd_ne (ne_of e hD (by intro z; cases z))]
          exact s3 _ _ e
        generalize upd H3 pD (.dK (mergeK kvs (kvOf ks))) = H4 at hL4 hd4 hD4 s4 t4
        -- append
        refine ⟨.ref L, rfl, .inl ⟨rfl, _, SqL.of hL4⟩, .ref d, rfl, d, _, ks.map (·.1), rfl, Rd.of hd4, kvOf_keys ks, by rw [List.length_map]; omega, fun ys p hperm hle np => ?_⟩
        have ey : ys = partOf ts n i := by
          refine rising_ext ?_ (part_rising ts n i) fun z => ?_
          · have nd2 : ys.Nodup := hperm.nodup_iff.mpr so.nd
            exact (hle.and nd2).imp fun {x y} h => by omega
          · rw [hperm.mem_iff, so.all, mem_part]
            exact ⟨fun h => ⟨h.rng ok.ok hir, h⟩, fun h => h.2⟩
        refine ⟨p, _, rfl, .inl ⟨SqL.of upd_same, fun t nt => ?_⟩⟩
        have s6 := (same_new (o := .lst (ys.map V.int)) np).trans (same_new (o := .tup (ys.map V.int)) nt)
        have hL6 := s6 _ _ hL4
        refine ⟨L, bs, _, rfl, rfl, hL6, small1000 (by omega), ?_⟩
        have t6 : Tk H2 (upd (upd (upd H4 p (.lst (ys.map V.int))) t (.tup (ys.map V.int))) L (.lst (bs ++ [.ref t]))) := (t4.trans (Same.tk s6)).trans (tk_lst hL6)
        refine ⟨_, _, mergeK kvs (kvOf ks), bs ++ [.ref t], rfl, upd_same, ?_, ?_, ?_, fun z => ?_, Same.mut (s4.trans s6) nL⟩
        · rw [partsTo_succ, if_pos ld]
          refine Paired.snoc (parts_tk t6 hP) ⟨t, rfl, ?_⟩
          rw [← ey]
          exact tk_lst hL6 _ _ upd_same
        · rw [upd_ne hLD]
          exact s6 _ _ hD4
        · have := length_mergeK (kvOf ks) kvs
          rw [kvOf_len] at this
          omega
        · rw [mem_mergeK, hkeys, kvOf_keys]
          constructor
          · rintro (⟨y, e, h⟩ | h)
            · exact ⟨y, e, (nx y).mpr (.inl h)⟩
            · obtain ⟨y, hy, rfl⟩ := List.mem_map.mp h
              exact ⟨y, rfl, (nx y).mpr (.inr ((so.all y).mp hy))⟩
          · rintro ⟨y, rfl, h⟩
            rcases (nx y).mp h with h | h
            · exact .inl ⟨y, rfl, h⟩
            · exact .inr (List.mem_map.mpr ⟨y, (so.all y).mpr h, rfl⟩)
    · rintro σ' H2 ⟨y4, y5, kvs, bs, rfl, hL, hP, hD, hlen, hkeys, s2⟩
      refine ⟨.ref L, rfl, L, bs, rfl, .inl ⟨SqL.of hL, fun t nt => ?_⟩⟩
      exact q _ _ ((s1.trans s2).trans (same_new nt)) ⟨t, bs, rfl, upd_same, parts_tk (Same.tk (same_new nt)) hP⟩
end

/-! ### flats: a face as the law walks it (mathematics) -/
def dueW (bs : List St2) : Nat → List (Int × Int) × List (Int × Int) × (Int × Int) → List (Int × Int) × List (Int × Int) × (Int × Int)
  | 0, st => st
  | n + 1, (K, f, x) => if x ∈ K then dueW bs n (K, f, x) else dueW bs n (addP K x, f ++ [x], nxB bs x)
theorem dueW_stay {bs : List St2} {K f : List (Int × Int)} {x : Int × Int} (h : x ∈ K) : ∀ n, dueW bs n (K, f, x) = (K, f, x)
  | 0 => rfl
  | n + 1 => by
    show (if x ∈ K then dueW bs n (K, f, x) else _) = _
    rw [if_pos h]
    exact dueW_stay h n
theorem fold_mem {x : Int × Int} : ∀ {ps K : List (Int × Int)}, x ∈ ps.foldl addP K ↔ x ∈ K ∨ x ∈ ps
  | [], K => by simp
  | p :: ps, K => by
    rw [List.foldl_cons, fold_mem, addP_mem, List.mem_cons, or_assoc]
/-- whole ways round only: with a step, the one behind it and the one before it -/
def Whole (bs : List St2) (K : List (Int × Int)) : Prop := ∀ x ∈ bs.map (·.1), (x ∈ K ↔ nxB bs x ∈ K)
theorem Whole.it {bs : List St2} {K : List (Int × Int)} (w : Whole bs K) (r : Rnd bs) {s : Int × Int} (hs : s ∈ bs.map (·.1)) : ∀ n, (s ∈ K ↔ itF (nxB bs) n s ∈ K)
  | 0 => Iff.rfl
  | n + 1 => (w.it r hs n).trans (w _ (r.it hs n))
theorem cyc_at {bs : List St2} {s : Int × Int} {j : Nat} (h : j < perB bs s) : (cycB bs s)[j]? = some (itF (nxB bs) j s) := by
  unfold cycB
  rw [List.getElem?_map, List.getElem?_range h]
  rfl
theorem Rnd.walk {bs : List St2} (r : Rnd bs) {s : Int × Int} (hs : s ∈ bs.map (·.1)) {K : List (Int × Int)} (w : Whole bs K) (no : s ∉ K) : ∀ j, j ≤ perB bs s → ∀ n, dueW bs (j + n) (K, [], s) = dueW bs n (((cycB bs s).take j).foldl addP K, (cycB bs s).take j, itF (nxB bs) j s)
  | 0, _, n => by
    rw [Nat.zero_add]
    rfl
  | j + 1, h, n => by
    rw [show j + 1 + n = j + (n + 1) by omega, r.walk hs w no j (by omega) (n + 1)]
    have per := r.per hs
    have out : itF (nxB bs) j s ∉ ((cycB bs s).take j).foldl addP K := fun z => by
      rcases fold_mem.mp z with z | z
      · exact no ((w.it r hs j).mpr z)
      · obtain ⟨i, hi⟩ := List.getElem?_of_mem z
        have il := (List.getElem?_eq_some_iff.mp hi).1
        rw [List.length_take] at il
        rw [List.getElem?_take_of_lt (by omega), cyc_at (by omega)] at hi
        have e := Option.some.inj hi
        refine per.2.2.2.1 (j - i) (by omega) (by omega) (r.back hs (j - i) i ?_)
        rw [show j - i + i = j by omega]
        exact e.symm
    show (if _ then _ else _) = _
    rw [if_neg out, List.take_add_one, cyc_at (by omega), List.foldl_append]
    rfl
theorem Rnd.due {bs : List St2} (r : Rnd bs) {s : Int × Int} (hs : s ∈ bs.map (·.1)) {K : List (Int × Int)} (w : Whole bs K) (no : s ∉ K) {N : Nat} (hN : bs.length ≤ N) : dueW bs N (K, [], s) = ((cycB bs s).foldl addP K, cycB bs s, s) := by
  have per := r.per hs
  have e := r.walk hs w no (perB bs s) (Nat.le_refl _) (N - perB bs s)
  rw [show perB bs s + (N - perB bs s) = N by omega, ← cycB_len, List.take_length, cycB_len, per.2.2.1] at e
  rw [e]
  refine dueW_stay (fold_mem.mpr (.inr ?_)) _
  have := cyc_at (bs := bs) (s := s) (j := 0) (by omega)
  exact List.mem_of_getElem? this
theorem Rnd.whole {bs : List St2} (r : Rnd bs) {s : Int × Int} (hs : s ∈ bs.map (·.1)) {K : List (Int × Int)} (w : Whole bs K) : Whole bs ((cycB bs s).foldl addP K) := fun x hx => by
  have per := r.per hs
  rw [fold_mem, fold_mem, w x hx]
  have cyc : x ∈ cycB bs s ↔ nxB bs x ∈ cycB bs s := by
    constructor
    · intro h
      obtain ⟨i, hi⟩ := List.getElem?_of_mem h
      have il := (List.getElem?_eq_some_iff.mp hi).1
      rw [cycB_len] at il
      rw [cyc_at il] at hi
      obtain rfl := Option.some.inj hi
      by_cases e : i + 1 < perB bs s
      · exact List.mem_of_getElem? (cyc_at e)
      · have : nxB bs (itF (nxB bs) i s) = s := by
          show itF (nxB bs) (i + 1) s = s
          rw [show i + 1 = perB bs s by omega, per.2.2.1]
        rw [this]
        exact List.mem_of_getElem? (cyc_at (bs := bs) (s := s) (j := 0) (by omega))
    · intro h
      obtain ⟨i, hi⟩ := List.getElem?_of_mem h
      have il := (List.getElem?_eq_some_iff.mp hi).1
      rw [cycB_len] at il
      rw [cyc_at il] at hi
      have e := Option.some.inj hi
      cases i with
      | zero =>
        have e2 : nxB bs (itF (nxB bs) (perB bs s - 1) s) = s := by
          show itF (nxB bs) (perB bs s - 1 + 1) s = s
          rw [show perB bs s - 1 + 1 = perB bs s by omega, per.2.2.1]
        have : x = itF (nxB bs) (perB bs s - 1) s := r.inj hx (r.it hs _) (e.symm.trans e2.symm)
        rw [this]
        exact List.mem_of_getElem? (cyc_at (by omega))
      | succ i =>
        have : x = itF (nxB bs) i s := r.inj hx (r.it hs _) e.symm
        rw [this]
        exact List.mem_of_getElem? (cyc_at (by omega))
  rw [cyc]
theorem sorted_one {S T : List (Int × Int)} (p : S.Perm T) (hS : S.Pairwise (fun x y => SrtO.lexB y x = false)) (hT : T.Pairwise (fun x y => SrtO.lexB y x = false)) : S = T := by
  refine List.Perm.eq_of_pairwise (fun a b _ _ h1 h2 => ?_) hS hT p
  have h1 := SrtO.lexB_no.mp h1
  have h2 := SrtO.lexB_no.mp h2
  exact Prod.ext (by omega) (by omega)
def endsL (es : List (Int × Int)) (m : Nat) : List (Int × Int) := (List.range m).flatMap fun k : Nat => [((k : Int), (es.getD k (0, 0)).1), ((k : Int), (es.getD k (0, 0)).2)]
theorem endsL_succ (es : List (Int × Int)) (m : Nat) : endsL es (m + 1) = endsL es m ++ [((m : Int), (es.getD m (0, 0)).1), ((m : Int), (es.getD m (0, 0)).2)] := by
  unfold endsL
  rw [List.range_succ, List.flatMap_append]
  simp
theorem endsL_len (es : List (Int × Int)) : ∀ m, (endsL es m).length = 2 * m
  | 0 => rfl
  | m + 1 => by
    rw [endsL_succ, List.length_append, endsL_len es m]
    rfl
theorem endsL_mem {es : List (Int × Int)} {x : Int × Int} : x ∈ endsL es es.length ↔ ∃ (k : Nat) (e : Int × Int), es[k]? = some e ∧ x.1 = (k : Int) ∧ (x.2 = e.1 ∨ x.2 = e.2) := by
  unfold endsL
  rw [List.mem_flatMap]
  constructor
  · rintro ⟨k, hk, h⟩
    have hk := List.mem_range.mp hk
    have ek := List.getElem?_eq_getElem hk
    have eg : es.getD k (0, 0) = es[k] := by rw [List.getD_eq_getElem?_getD, ek]; rfl
    rw [eg] at h
    refine ⟨k, _, ek, ?_⟩
    rcases List.mem_cons.mp h with h | h
    · rw [h]; exact ⟨rfl, .inl rfl⟩
    · rw [List.mem_singleton.mp h]; exact ⟨rfl, .inr rfl⟩
  · rintro ⟨k, e, ek, h1, h2⟩
    have eg : es.getD k (0, 0) = e := by rw [List.getD_eq_getElem?_getD, ek]; rfl
    refine ⟨k, List.mem_range.mpr (List.getElem?_eq_some_iff.mp ek).1, ?_⟩
    rw [eg]
    rcases h2 with h2 | h2
    · exact List.mem_cons.mpr (.inl (Prod.ext h1 h2))
    · exact List.mem_cons.mpr (.inr (List.mem_singleton.mpr (Prod.ext h1 h2)))
theorem stepsB_few {rs : List (List Int)} {es : List (Int × Int)} (od : Ord rs es) : (stepsB es rs rs.length).length ≤ 2 * es.length := by
  have := sub_lenG (stepsB_nk od _ (Nat.le_refl _)) (ys := endsL es es.length) fun x hx => endsL_mem.mpr ((stepsB_key od).mp hx)
  rw [List.length_map, endsL_len] at this
  exact this
/-! ### k53: parts, their ties and faces -/
theorem in_ints (z : Int) (ns : List Int) : inV (.int z) (ns.map V.int) = decide (z ∈ ns) := by
  rw [Bool.eq_iff_iff, decide_eq_true_iff]
  unfold inV
  rw [List.any_map, List.any_eq_true]
  constructor
  · rintro ⟨x, hx, e⟩
    have e' : (x == z) = true := e
    rw [beq_iff_eq] at e'
    rw [← e']
    exact hx
  · intro h
    exact ⟨z, h, by show (z == z) = true; simp⟩
def tinC (ts : List Tie) (P : List Int) : Nat := ts.countP fun t => decide (t.one ∈ P)
def hdIn (P : List Int) : List Dt → Bool
  | [] => false
  | x :: _ => decide (x.2 ∈ P)
def ownC (P : List Int) (fs : List (List Dt)) : Nat := fs.countP (hdIn P)
def flatP (ts : List Tie) (fs : List (List Dt)) (P : List Int) : Bool := decide (tinC ts P = 0 ∨ P.length + ownC P fs = tinC ts P + 2)
theorem tinC_succ {ts : List Tie} {P : List Int} {i : Nat} {t : Tie} (h : ts[i]? = some t) : tinC (ts.take (i + 1)) P = tinC (ts.take i) P + if t.one ∈ P then 1 else 0 := by
  unfold tinC
  rw [List.take_add_one, h, List.countP_append]
  show _ + List.countP _ [t] = _
  rw [List.countP_singleton]
  by_cases c : t.one ∈ P
  · rw [if_pos c, if_pos (decide_eq_true c)]
  · rw [if_neg c, if_neg (by rw [decide_eq_false c]; exact Bool.false_ne_true)]
theorem ownC_succ {fs : List (List Dt)} {P : List Int} {i : Nat} {f : List Dt} (h : fs[i]? = some f) : ownC P (fs.take (i + 1)) = ownC P (fs.take i) + if hdIn P f = true then 1 else 0 := by
  unfold ownC
  rw [List.take_add_one, h, List.countP_append]
  show _ + List.countP _ [f] = _
  rw [List.countP_singleton]
theorem tinC_le (ts : List Tie) (P : List Int) : tinC ts P ≤ ts.length := List.countP_le_length
theorem ownC_le (fs : List (List Dt)) (P : List Int) : ownC P fs ≤ fs.length := List.countP_le_length
def spTiesWithin : Sp := fun vs H Q _ => ∃ (wv : V) (p : Addr) (n : Int) (ts : List Tie) (P : List Int), vs = [wv, .ref p] ∧ WebAt H wv n ts ∧ WebOk n ts ∧ H p = some (.tup (P.map V.int)) ∧ ∀ r xs H', Same H H' → H' r = some (.tup xs) → xs.length = tinC ts P → Q (.ref r) H'
theorem foldFaces {bs : List St2} : ∀ {S : List Dt} {st : List (List Dt) × List Dt} {f : List Dt}, f ∈ (S.foldl (faceStep bs) st).1 → f ∈ st.1 ∨ ∃ s ∈ S, f = cycB bs s
  | [], _, _, h => .inl h
  | s :: S, st, f, h => by
    rcases foldFaces (S := S) h with z | ⟨t, ht, e⟩
    · unfold faceStep at z
      split at z
      · exact .inl z
      · rcases List.mem_append.mp z with y | y
        · exact .inl y
        · exact .inr ⟨s, List.mem_cons_self, List.mem_singleton.mp y⟩
    · exact .inr ⟨t, List.mem_cons_of_mem _ ht, e⟩
theorem foldFaces_len {bs : List St2} : ∀ {S : List Dt} {st : List (List Dt) × List Dt}, (S.foldl (faceStep bs) st).1.length ≤ st.1.length + S.length
  | [], _ => Nat.le_add_right _ _
  | s :: S, st => by
    refine Nat.le_trans (foldFaces_len (S := S)) ?_
    rw [List.length_cons]
    unfold faceStep
    split
    · omega
    · rw [List.length_append, List.length_singleton]
      omega
theorem facesG_ne {bs : List St2} (r : Rnd bs) {S : List Dt} (p : S.Perm (bs.map (·.1))) : ∀ f ∈ (facesG bs S).1, f ≠ [] := fun f hf z => by
  rcases foldFaces hf with h | ⟨s, hs, e⟩
  · cases h
  · have := (r.per (p.mem_iff.mp hs)).1
    rw [z] at e
    have l := cycB_len bs s
    rw [← e] at l
    simp at l
    omega
theorem facesG_few {bs : List St2} {S : List Dt} : (facesG bs S).1.length ≤ S.length := by
  have := foldFaces_len (bs := bs) (S := S) (st := ([], []))
  show (S.foldl (faceStep bs) ([], [])).1.length ≤ S.length
  simpa using this
def spAreFlat : Sp := fun vs H Q _ => ∃ (wv : V) (n : Nat) (ts : List Tie) (o : Addr) (us : List V) (rs : List (List Int)) (es : List (Int × Int)), vs = [wv, .ref o] ∧ WebAt H wv n ts ∧ WebOk n ts ∧ H o = some (.tup us) ∧ Paired (IntsV H) us rs ∧ Ord rs es ∧ TwE ts es ∧ rs.length ≤ 50 ∧ es.length ≤ 100 ∧
  ∀ S H', Same H H' → S.Perm ((stepsB es rs rs.length).map (·.1)) → Q (.bl ((partsTo ts n n).all (flatP ts (facesG (stepsB es rs rs.length) S).1))) H'
def spFlatF : Sp := fun vs H Q _ => ∃ (wv : V) (n : Nat) (ts : List Tie) (o : Addr) (us : List V) (fs : List (List Dt)), vs = [wv, .ref o] ∧ WebAt H wv n ts ∧ WebOk n ts ∧ H o = some (.tup us) ∧ Paired (FcV H) us fs ∧ (∀ f ∈ fs, f ≠ []) ∧ fs.length ≤ 500 ∧
  ∀ H', Same H H' → Q (.bl ((partsTo ts n n).all (flatP ts fs))) H'
theorem part_lenF {ts : List Tie} {n : Nat} {P : List Int} (h : P ∈ partsTo ts n n) : P.length ≤ n := by
  unfold partsTo at h
  obtain ⟨s, _, rfl⟩ := List.mem_map.mp h
  unfold partOf rng
  refine Nat.le_trans (List.length_filter_le _ _) ?_
  rw [List.length_map, List.length_range]
  exact Nat.le_refl n
section
variable {P : Program} {w : World} {K : PySem.W.Frag} {mg : Str → Option Value} {base : Heap}
set_option maxHeartbeats 4000000 in
theorem ok_ties_within {f : Addr} {fd : FuncData} (F : Fun K "ties_within" "ties_within" s_ties_within f fd) (M : Free mg) (m_enumerate : mg "enumerate" = none) : FnOk P w K mg base CX0 1 f fd ["web", "part"] spTiesWithin := by
  refine F.ok sc_ties_within (fun vs H Q E h => ?_) (fun cdv A outer s H vs Q E hr h => ?_)
  · obtain ⟨wv, p, n, ts, P, rfl, _⟩ := h
    rfl
  · obtain ⟨wv, p, n, ts, P, rfl, hW, ok, hp0, q⟩ := h
    refine ⟨_, (pss_one (ps_ret (pe_callTy call_tuple_of (by rfl) M.tuple (by decide +kernel) (pa_cons (pe_lc (own := [("number", 2), ("tie", 3)]) (g := (gTup K 2 (gCons (gName 2) (gCons (gName 3) gNil)))) (te := tVar 2) rfl sc_ties_within.nd (pi_enumT (by rfl) m_enumerate (pa_cons (pe_ix ix_tup (pv 0) pe_int (fun _ _ => rfl)) pa_nil)) (blkOk_by (N := N_ties_within) (sc := defScope s_ties_within) (own := [("number", 2), ("tie", 3)]) (by decide +kernel)) (fun _ _ _ _ _ => (pg_tup rfl (pgs_cons (pg_name (i := 2) sc_ties_within.nd rfl (.inl rfl)) (pgs_cons (pg_name (i := 3) sc_ties_within.nd rfl (.inl rfl)) pgs_nil)))) (fun _ _ _ _ _ => (pts_one (pt_cmpR (r := rIn K false) op_in_seq (pe_ix (r := rIxT K) ix_tup (pv 3) pe_int (fun _ _ => rfl)) (pv 1) rfl))) (fun _ _ _ _ _ => (pv 2))) pa_nil)))), ?_⟩
    obtain ⟨wa, wb, us, rfl, hwa, hwb, hp⟩ := hW
    have hlen : us.length = ts.length := Paired.length hp
    have few := ok.few
    refine ⟨.ref wa, rfl, wa, _, 1, .ref wb, rfl, rfl, SqT.of hwa, rfl, wb, us, rfl, SqT.of hwb, fun Z nZ => ?_⟩
    refine lc_it (walk_enumT (xs := us)) (fun i H' => (∃ zs, H' Z = some (.lst zs) ∧ zs.length = tinC (ts.take i) P) ∧ Same H H') ⟨⟨[], upd_same, rfl⟩, same_new nZ⟩ (fun i H' _ h => SqT.of (h.2 _ _ hwb)) ?_ ?_
    · rintro i x H1 H2 hi ⟨⟨zs, hZ, lz⟩, s1⟩ ⟨T, x1, y, rfl, nT, rfl, e1, e2⟩
      obtain rfl : V.int (i : Nat) = x1 := Option.some.inj e1
      obtain ⟨t, et, c, rfl, hc⟩ := Paired.at hp e2
      have s2 := s1.trans (same_new (o := .tup [.int (i : Nat), .ref c]) nT)
      have hZ2 := same_new (o := .tup [.int (i : Nat), .ref c]) nT _ _ hZ
      refine ⟨T, _, rfl, SqT.of upd_same, rfl, _, _, rfl, _, _, rfl, rfl, rfl, .ref c, rfl, c, _, 0, _, rfl, rfl, SqT.of (s2 _ _ hc), rfl, .ref p, rfl, p, _, rfl, .inr (SqT.of (s2 _ _ hp0)), rfl, in_flat _, _, rfl, ?_⟩
      have lt := tinC_le (ts.take i) P
      rw [List.length_take] at lt
      rw [in_ints]
      have sc := tinC_succ (P := P) et
      by_cases hb : t.one ∈ P
      · rw [decide_eq_true hb]
        rw [if_pos hb] at sc
        exact ⟨.int i, rfl, _, hZ2, small1000 (by omega), ⟨_, upd_same, by rw [List.length_append, sc, lz]; rfl⟩, fun b o e => by rw [upd_ne (ne_of_none e nZ)]; exact s2 b o e⟩
      · rw [decide_eq_false hb]
        rw [if_neg hb] at sc
        exact ⟨⟨zs, hZ2, by rw [sc, lz]; rfl⟩, s2⟩
    · rintro H1 ⟨⟨zs, hZ, lz⟩, s1⟩
      rw [hlen, List.take_length] at lz
      refine ⟨Z, _, rfl, .inl ⟨SqL.of hZ, fun r nr => ?_⟩⟩
      exact q r _ _ (s1.trans (same_new nr)) upd_same lz
set_option maxHeartbeats 4000000 in
theorem ok_are_flat_faces {f : Addr} {fd : FuncData} (F : Fun K "are_flat_faces" "are_flat_faces" s_are_flat_faces f fd) (M : Free mg) (D_parts_of : Df P w K mg base 2 "parts_of" ["web"] spPartsOf) (D_ties_within : Df P w K mg base 1 "ties_within" ["web", "part"] spTiesWithin) : FnOk P w K mg base CX0 3 f fd ["web", "faces"] spFlatF := by
  obtain ⟨f_parts_of, fd_parts_of, G_parts_of, g_parts_of, k_parts_of, b_parts_of⟩ := D_parts_of
  obtain ⟨f_ties_within, fd_ties_within, G_ties_within, g_ties_within, k_ties_within, b_ties_within⟩ := D_ties_within
  refine F.ok sc_are_flat_faces (fun vs H Q E h => ?_) (fun cdv A outer s H vs Q E hr h => ?_)
  · obtain ⟨wv, n, ts, o, us, fs, rfl, _⟩ := h
    rfl
  · obtain ⟨wv, n, ts, o, us, fs, rfl, hW, ok, ho, hf, hne, lf0, q⟩ := h
    refine ⟨_, (pss_cons (ps_for PassesOwn.never rfl (pi_tup (pe_call G_parts_of (hr.mono (by decide)) (by rfl) g_parts_of k_parts_of b_parts_of .nil pass0 (pa_cons (pv 0) pa_nil))) (pg_name (i := 2) sc_are_flat_faces.nd rfl (.inr rfl))
        (pss_cons (ps_set (i := 3) sc_are_flat_faces.nd rfl (.inl rfl) (pe_call G_ties_within (hr.mono (by decide)) (by rfl) g_ties_within k_ties_within b_ties_within .nil pass0 (pa_cons (pv 0) (pa_cons (pv 2) pa_nil))))
        (pss_cons (ps_setLc (i := 4) (own := [("face", 5)]) (g := (gName 5)) (te := tVar 5) rfl sc_are_flat_faces.nd rfl rfl (sw_true rfl rfl rfl (by decide +kernel)) (pi_tup (pv 1)) (blkOk_by (N := N_are_flat_faces) (sc := defScope s_are_flat_faces) (own := [("face", 5)]) (by decide +kernel)) (fun _ _ _ _ _ => (pg_name (i := 5) sc_are_flat_faces.nd rfl (.inl rfl))) (fun _ _ _ _ _ => (pts_one (pt_cmpR (r := rIn K false) op_in_seq (pe_ix (r := rIxT K) ix_tup (pe_ix (r := rIxT K) ix_tup (pv 5) pe_int (fun _ _ => rfl)) pe_int (fun _ _ => rfl)) (pv 2) rfl))) (fun _ _ _ _ _ => (pv 5)))
        (pss_one (ps_if (PW.pt (pw_and (pt_truth (pv 3) (by intro _; rfl)) (pw_and1 (pt_cmpR op_ne (pe_op op_add (pe_op op_sub (pe_callB call_len_seq (by rfl) M.len PySem.boot_len (pa_cons (pv 2) pa_nil)) (pe_callB call_len_seq (by rfl) M.len PySem.boot_len (pa_cons (pv 3) pa_nil))) (pe_callB call_len_seq (by rfl) M.len PySem.boot_len (pa_cons (pv 4) pa_nil))) pe_int (nomark _)))))
          (pss_one (ps_ret pe_bl))
          pss_nil)))))
      (pss_one (ps_ret pe_bl))), ?_⟩
    have lu := Paired.length hf
    have few := ok.few
    have hi := ok.hi
    refine ⟨wv, rfl, wv, n, ts, rfl, hW, ok, fun v' H1 s1 hP => ?_⟩
    obtain ⟨pa, bs, rfl, hpa, hbs⟩ := hP
    refine ⟨pa, rfl, ⟨bs, SqT.of hpa⟩, ?_⟩
    refine for_tup (fun i σ' H' => ∃ y2 y3 y4, σ' = [some wv, some (.ref o), y2, y3, y4, none] ∧ ((partsTo ts n n).take i).all (flatP ts fs) = true ∧ Same H H' ∧ Same H1 H') ⟨none, none, none, rfl, rfl, s1, fun _ _ e => e⟩ (fun i σ' H' _ h => by
      obtain ⟨_, _, _, _, _, _, s⟩ := h
      exact SqT.of (s _ _ hpa)) ?_ ?_
    · rintro i x σ' H2 ex ⟨y2, y3, y4, rfl, al, s2, s12⟩
      obtain ⟨P, eP, p, rfl, hp0⟩ := Paired.at hbs ex
      have hpm : P ∈ partsTo ts n n := List.mem_of_getElem? eP
      have lP := part_lenF hpm
      refine ⟨wv, rfl, .ref p, rfl, wv, p, n, ts, P, rfl, hW.tk (Same.tk s2), ok, s12 _ _ hp0, fun r xs H3 s3 hr3 lx => ?_⟩
      have s3H := s2.trans s3
      have lt := tinC_le ts P
      refine ⟨.ref o, rfl, o, rfl, ⟨us, SqT.of (s3H _ _ ho)⟩, fun Z nZ => ?_⟩
      refine lc_tup (xs := us) (fun j H' => (∃ zs, H' Z = some (.lst zs) ∧ zs.length = ownC P (fs.take j)) ∧ Same H3 H') ⟨⟨[], upd_same, rfl⟩, same_new nZ⟩ (fun j H' _ h => SqT.of (h.2 _ _ (s3H _ _ ho))) ?_ ?_
      · rintro j x H4 ex4 ⟨⟨zs, hZ, lz⟩, s4⟩
        obtain ⟨face, ef, c, ws, rfl, hc, hws⟩ := Paired.at hf ex4
        have s4H := s3H.trans s4
        obtain ⟨d, ds, efd⟩ : ∃ d ds, face = d :: ds := by
          cases face with
          | nil => exact (hne _ (List.mem_of_getElem? ef) rfl).elim
          | cons d ds => exact ⟨d, ds, rfl⟩
        subst efd
        obtain ⟨u0, eu0, c0, rfl, hc0⟩ := Paired.at' hws (i := 0) (b := d) rfl
        have lo := ownC_le (fs.take j) P
        rw [List.length_take] at lo
        refine ⟨rfl, .ref c, rfl, c, _, 0, .ref c0, rfl, rfl, SqT.of (s4H _ _ hc), atI_nat (j := 0) eu0, c0, _, 1, .int d.2, rfl, rfl, SqT.of (s4H _ _ hc0), rfl, .ref p, rfl, p, _, rfl, .inr (SqT.of ((s12.trans s3).trans s4 _ _ hp0)), rfl, in_flat _, _, rfl, ?_⟩
        have sc := ownC_succ (P := P) ef
        rw [in_ints]
        have hd : hdIn P (d :: ds) = decide (d.2 ∈ P) := rfl
        rw [hd] at sc
        by_cases hb : d.2 ∈ P
        · rw [decide_eq_true hb]
          rw [decide_eq_true hb, if_pos rfl] at sc
          exact ⟨.ref c, rfl, _, hZ, small1000 (by omega), ⟨_, upd_same, by rw [List.length_append, sc, lz]; rfl⟩, Same.mut s4 nZ⟩
        · rw [decide_eq_false hb]
          rw [decide_eq_false hb, if_neg Bool.false_ne_true] at sc
          exact ⟨⟨zs, hZ, by rw [sc, lz]; rfl⟩, s4⟩
      · rintro H4 ⟨⟨zs, hZ, lz⟩, s4⟩
        rw [lu, List.take_length] at lz
        have s4H := s3H.trans s4
        have lo := ownC_le fs P
        have fP : flatP ts fs P = decide (tinC ts P = 0 ∨ P.length + ownC P fs = tinC ts P + 2) := rfl
        have hr4 := s4 _ _ hr3
        have step : flatP ts fs P = true → ((partsTo ts n n).take (i + 1)).all (flatP ts fs) = true := fun z => by
          rw [List.take_add_one, eP, List.all_append, al]
          show (true && (flatP ts fs P && true)) = true
          rw [z]
          rfl
        have hp4 := ((s12.trans s3).trans s4) _ _ hp0
        have s14 := (s12.trans s3).trans s4
        refine ⟨.ref r, rfl, !xs.isEmpty, .inr (.inl ⟨xs, SqT.of hr4, rfl⟩), ?_⟩
        cases xs with
        | nil =>
          refine ⟨_, _, _, rfl, step ?_, s4H, s14⟩
          rw [fP]
          exact decide_eq_true (.inl lx.symm)
        | cons z0 zs0 =>
          refine ⟨.ref p, rfl, p, _, rfl, .inr (SqT.of hp4), .ref r, rfl, r, _, rfl, .inr (SqT.of hr4), _, _, rfl, rfl, .ref Z, rfl, Z, _, rfl, .inl (SqL.of hZ), _, _, rfl, rfl, ?_⟩
          rw [List.length_map, lx, lz]
          have lx' : tinC ts P ≠ 0 := by rw [← lx]; exact Nat.succ_ne_zero _
          by_cases hb : P.length + ownC P fs = tinC ts P + 2
          · refine ⟨rfl, false, congrArg V.bl (by
              show (!decide (V.int ((P.length : Int) - (tinC ts P : Nat) + (ownC P fs : Nat)) = V.int 2)) = false
              rw [dec_intF, decide_eq_true (by omega)]
              rfl), ?_⟩
            refine ⟨_, _, _, rfl, step ?_, s4H, s14⟩
            rw [fP]
            exact decide_eq_true (.inr hb)
          · refine ⟨rfl, true, congrArg V.bl (by
              show (!decide (V.int ((P.length : Int) - (tinC ts P : Nat) + (ownC P fs : Nat)) = V.int 2)) = true
              rw [dec_intF, decide_eq_false (by omega)]
              rfl), ?_⟩
            have fl : (partsTo ts n n).all (flatP ts fs) = false := by
              rw [List.all_eq_false]
              refine ⟨P, hpm, ?_⟩
              rw [fP, decide_eq_false (fun z => z.elim lx' hb)]
              exact Bool.false_ne_true
            have := q H4 s4H
            rw [fl] at this
            exact this
    · rintro σ' H2 ⟨y2, y3, y4, rfl, al, s2, s12⟩
      have lb := Paired.length hbs
      rw [lb, List.take_length] at al
      have := q H2 s2
      rw [al] at this
      exact this
theorem ok_are_flat {f : Addr} {fd : FuncData} (F : Fun K "are_flat" "are_flat" s_are_flat f fd) (D_faces_of : Df P w K mg base 2 "faces_of" ["web", "orders"] spFaces) (D_are_flat_faces : Df P w K mg base 3 "are_flat_faces" ["web", "faces"] spFlatF) : FnOk P w K mg base CX0 4 f fd ["web", "orders"] spAreFlat := by
  obtain ⟨f_faces_of, fd_faces_of, G_faces_of, g_faces_of, k_faces_of, b_faces_of⟩ := D_faces_of
  obtain ⟨f_are_flat_faces, fd_are_flat_faces, G_are_flat_faces, g_are_flat_faces, k_are_flat_faces, b_are_flat_faces⟩ := D_are_flat_faces
  refine F.ok sc_are_flat (fun vs H Q E h => ?_) (fun cdv A outer s H vs Q E hr h => ?_)
  · obtain ⟨wv, n, ts, o, us, rs, es, rfl, _⟩ := h
    rfl
  · obtain ⟨wv, n, ts, o, us, rs, es, rfl, hW, ok, ho, hp, od, tw, lr, le, q⟩ := h
    refine ⟨_, (pss_one (ps_ret (pe_call G_are_flat_faces (hr.mono (by decide)) (by rfl) g_are_flat_faces k_are_flat_faces b_are_flat_faces .nil pass0 (pa_cons (pv 0) (pa_cons (pe_call G_faces_of (hr.mono (by decide)) (by rfl) g_faces_of k_faces_of b_faces_of .nil pass0 (pa_cons (pv 0) (pa_cons (pv 1) pa_nil))) pa_nil))))), ?_⟩
    have few := stepsB_few od
    refine ⟨wv, rfl, wv, rfl, .ref o, rfl, wv, n, ts, o, us, rs, es, rfl, hW, ho, hp, od, tw, by omega, by omega, by omega, fun r vs' S H1 s1 pm _ hr1 hfs => ?_⟩
    have ls := pm.length_eq
    rw [List.length_map] at ls
    have lf := facesG_few (bs := stepsB es rs rs.length) (S := S)
    exact ⟨wv, n, ts, r, vs', _, rfl, hW.tk (Same.tk s1), ok, hr1, hfs, facesG_ne (stepsB_rnd od) pm, by omega, fun H2 s2 => q S H2 (s1.trans s2) pm⟩
end
/-! ### the faces that are told are the ways round -/
theorem nxR_iff {es : List (Int × Int)} {rs : List (List Int)} {x y : Dt} : NxR es rs x y ↔ (x, y) ∈ stepsB es rs rs.length := by
  rw [stepsB_mem]
  constructor
  · rintro ⟨p, row, e1, e2, e3, i, hi, c1, c2⟩
    have hp := (List.getElem?_eq_some_iff.mp e1).1
    have er : rs.getD p [] = row := by rw [List.getD_eq_getElem?_getD, e1]; rfl
    refine ⟨p, hp, ?_⟩
    rw [er, stepR_memI]
    have g1 : row.getD i 0 = x.1 := by rw [List.getD_eq_getElem?_getD, c1]; rfl
    have g2 : row.getD ((i + 1) % row.length) 0 = y.1 := by rw [List.getD_eq_getElem?_getD, c2]; rfl
    refine ⟨i, hi, ?_⟩
    rw [g1, g2, ← e3, ← e2]
  · rintro ⟨p, hp, h⟩
    have e1 : rs[p]? = some (rs.getD p []) := by rw [List.getD_eq_getElem?_getD, List.getElem?_eq_getElem hp]; rfl
    obtain ⟨i, hi, e⟩ := stepR_memI.mp h
    generalize rs.getD p [] = row at e1 hi e
    have ex : x = (row.getD i 0, othE es (row.getD i 0) p) := congrArg Prod.fst e
    have ey : y = (row.getD ((i + 1) % row.length) 0, (p : Int)) := congrArg Prod.snd e
    have l2 := Nat.mod_lt (i + 1) (show 0 < row.length by omega)
    refine ⟨p, row, e1, by rw [ey], by rw [ex], i, hi, ?_, ?_⟩
    · rw [ex, List.getD_eq_getElem?_getD, List.getElem?_eq_getElem hi]; rfl
    · rw [ey, List.getD_eq_getElem?_getD, List.getElem?_eq_getElem l2]; rfl
theorem dtE_iff {es : List (Int × Int)} {rs : List (List Int)} (od : Ord rs es) {x : Dt} : DtE es x ↔ x ∈ (stepsB es rs rs.length).map (·.1) := (stepsB_key od).symm
def BsR (bs : List St2) (x y : Dt) : Prop := (x, y) ∈ bs
theorem itF_wk {bs : List St2} {s : Dt} (h : ∀ n, (itF (nxB bs) n s, itF (nxB bs) (n + 1) s) ∈ bs) : ∀ m k, Wk (BsR bs) (itF (nxB bs) k s) ((List.range m).map fun n => itF (nxB bs) (k + 1 + n) s) (itF (nxB bs) (k + 1 + m) s)
  | 0, k => h k
  | m + 1, k => by
    rw [List.range_succ_eq_map, List.map_cons, List.map_map]
    refine ⟨h k, ?_⟩
    have := itF_wk h m (k + 1)
    have e1 : (fun n => itF (nxB bs) (k + 1 + 1 + n) s) = ((fun n => itF (nxB bs) (k + 1 + n) s) ∘ Nat.succ) := by
      funext n
      show itF (nxB bs) (k + 1 + 1 + n) s = itF (nxB bs) (k + 1 + (n + 1)) s
      rw [show k + 1 + 1 + n = k + 1 + (n + 1) by omega]
    rw [e1, show k + 1 + 1 + m = k + 1 + (m + 1) by omega] at this
    exact this
theorem Rnd.cyR {bs : List St2} (r : Rnd bs) {s : Dt} (hs : s ∈ bs.map (·.1)) : CyR (BsR bs) (cycB bs s) := by
  obtain ⟨c1, _, cc, _, _⟩ := r.per hs
  obtain ⟨m, em⟩ : ∃ m, perB bs s = m + 1 := ⟨perB bs s - 1, by omega⟩
  have st : ∀ n, (itF (nxB bs) n s, itF (nxB bs) (n + 1) s) ∈ bs := fun n => nxB_mem (r.it hs n)
  have := itF_wk st m 0
  unfold cycB
  rw [em, List.range_succ_eq_map, List.map_cons, List.map_map]
  have e1 : (fun n => itF (nxB bs) (0 + 1 + n) s) = ((fun n => itF (nxB bs) n s) ∘ Nat.succ) := by
    funext n
    show itF (nxB bs) (0 + 1 + n) s = itF (nxB bs) (n + 1) s
    rw [show 0 + 1 + n = n + 1 by omega]
  rw [e1, show 0 + 1 + m = m + 1 by omega, ← em, cc] at this
  exact this
theorem Rnd.cyN {bs : List St2} (r : Rnd bs) {s : Dt} (hs : s ∈ bs.map (·.1)) : (cycB bs s).Nodup := by
  obtain ⟨c1, _, cc, no, _⟩ := r.per hs
  unfold cycB
  rw [List.nodup_iff_pairwise_ne, List.pairwise_map]
  refine (List.pairwise_lt_range).imp_of_mem fun {a b} ha hb lt e => ?_
  have hb' := List.mem_range.mp hb
  refine no (b - a) (by omega) (by omega) (r.back hs (b - a) a ?_)
  rw [show b - a + a = b by omega]
  exact e.symm
structure FInv (bs : List St2) (st : List (List Dt) × List Dt) : Prop where
  mem : ∀ x, x ∈ st.2 ↔ ∃ f ∈ st.1, x ∈ f
  wh : Whole bs st.2
  cy : ∀ f ∈ st.1, ∃ s ∈ bs.map (·.1), f = cycB bs s
  dj : st.1.Pairwise fun f g => ∀ x ∈ f, x ∉ g
theorem FInv.step {bs : List St2} (r : Rnd bs) {st : List (List Dt) × List Dt} (h : FInv bs st) {s : Dt} (hs : s ∈ bs.map (·.1)) : FInv bs (faceStep bs st s) ∧ s ∈ (faceStep bs st s).2 ∧ ∀ x ∈ st.2, x ∈ (faceStep bs st s).2 := by
  unfold faceStep
  by_cases c : s ∈ st.2
  · rw [if_pos c]
    exact ⟨h, c, fun _ z => z⟩
  · rw [if_neg c]
    have s0 : s ∈ cycB bs s := by
      have := (r.per hs).2.2.2.2.hd
      exact List.mem_of_getElem? this
    refine ⟨⟨fun x => ?_, r.whole hs h.wh, fun f hf => ?_, ?_⟩, fold_mem.mpr (.inr s0), fun x hx => fold_mem.mpr (.inl hx)⟩
    · show x ∈ (cycB bs s).foldl addP st.2 ↔ _
      rw [fold_mem, h.mem x]
      constructor
      · rintro (⟨f, hf, xf⟩ | hx)
        · exact ⟨f, List.mem_append_left _ hf, xf⟩
        · exact ⟨_, List.mem_append_right _ (List.mem_singleton.mpr rfl), hx⟩
      · rintro ⟨f, hf, xf⟩
        rcases List.mem_append.mp hf with z | z
        · exact .inl ⟨f, z, xf⟩
        · exact .inr (List.mem_singleton.mp z ▸ xf)
    · rcases List.mem_append.mp hf with z | z
      · exact h.cy f z
      · exact ⟨s, hs, List.mem_singleton.mp z⟩
    · refine List.pairwise_append.mpr ⟨h.dj, List.pairwise_singleton _ _, fun f hf g hg x xf xg => ?_⟩
      rw [List.mem_singleton.mp hg] at xg
      unfold cycB at xg
      obtain ⟨n, _, rfl⟩ := List.mem_map.mp xg
      exact c ((h.wh.it r hs n).mpr ((h.mem _).mpr ⟨f, hf, xf⟩))
theorem FInv.fold {bs : List St2} (r : Rnd bs) : ∀ {S : List Dt} {st : List (List Dt) × List Dt}, (∀ s ∈ S, s ∈ bs.map (·.1)) → FInv bs st → FInv bs (S.foldl (faceStep bs) st) ∧ ∀ x, x ∈ st.2 ∨ x ∈ S → x ∈ (S.foldl (faceStep bs) st).2
  | [], _, _, h => ⟨h, fun x z => z.elim id fun z => (by cases z)⟩
  | s :: S, st, hS, h => by
    obtain ⟨h1, h2, h3⟩ := h.step r (hS s List.mem_cons_self)
    obtain ⟨h4, h5⟩ := FInv.fold r (S := S) (fun t ht => hS t (List.mem_cons_of_mem _ ht)) h1
    refine ⟨h4, fun x z => ?_⟩
    rcases z with z | z
    · exact h5 x (.inl (h3 x z))
    · rcases List.mem_cons.mp z with e | z
      · exact h5 x (.inl (e ▸ h2))
      · exact h5 x (.inr z)
theorem facesG_dec {bs : List St2} (r : Rnd bs) {S : List Dt} (hS : ∀ x, x ∈ S ↔ x ∈ bs.map (·.1)) : Dec (BsR bs) (fun x => x ∈ bs.map (·.1)) (facesG bs S).1 := by
  obtain ⟨h1, h2⟩ := FInv.fold r (S := S) (st := ([], [])) (fun s hs => (hS s).mp hs) ⟨fun x => ⟨fun z => (by cases z), fun ⟨f, z, _⟩ => (by cases z)⟩, fun x _ => ⟨fun z => (by cases z), fun z => (by cases z)⟩, fun f z => (by cases z), List.Pairwise.nil⟩
  refine ⟨fun f hf => ?_, fun f hf => ?_, h1.dj, fun x => ⟨fun hx => (h1.mem x).mp (h2 x (.inr ((hS x).mpr hx))), fun ⟨f, hf, xf⟩ => ?_⟩⟩
  · obtain ⟨s, hs, rfl⟩ := h1.cy f hf
    exact r.cyR hs
  · obtain ⟨s, hs, rfl⟩ := h1.cy f hf
    exact r.cyN hs
  · obtain ⟨s, hs, rfl⟩ := h1.cy f hf
    exact r.cyc_in hs x xf
theorem facesG_decE {es : List (Int × Int)} {rs : List (List Int)} (od : Ord rs es) {S : List Dt} (hS : ∀ x, x ∈ S ↔ x ∈ (stepsB es rs rs.length).map (·.1)) : Dec (NxR es rs) (DtE es) (facesG (stepsB es rs rs.length) S).1 := by
  have h := facesG_dec (stepsB_rnd od) hS
  exact ⟨fun f hf => (h.cy f hf).keep fun x y _ z => nxR_iff.mpr z, h.nd, h.dj, fun x => (dtE_iff od).trans (h.all x)⟩
theorem rgV_ints (n : Nat) : rgV 0 n = (rng n).map V.int := by
  unfold rgV rng
  rw [List.map_map, show ((n : Int) - 0).toNat = n from by omega]
  refine List.map_congr_left fun i _ => ?_
  show V.int (0 + (i : Int)) = V.int i
  rw [Int.zero_add]
/-! ### the law: the least place that each comes to -/
theorem relax_eq (f : Int → Int) (t : Tie) (y : Int) (hy : y = min (f t.one) (f t.other)) : (fun x => if x = t.other then y else if x = t.one then y else f x) = relax f t := by
  funext x
  unfold relax
  by_cases h1 : x = t.other
  · rw [if_pos h1, if_pos (.inr h1), hy]
  · by_cases h2 : x = t.one
    · rw [if_neg h1, if_pos h2, if_pos (.inl h2), hy]
    · rw [if_neg h1, if_neg h2, if_neg (fun h => h.elim h2 h1)]
def spPartOfL : Sp := fun vs H Q _ => ∃ (v : V) (n : Nat) (ts : List Tie), vs = [v] ∧ WebAt H v n ts ∧ WebOk n ts ∧
  ∀ a H', H a = none → Same H H' → H' a = some (.lst (lf (rounds ts n) n)) → Q (.ref a) H'
section
variable {P : Program} {w : World} {K : PySem.W.Frag} {mg : Str → Option Value} {base : Heap}
theorem ok_l_part_of {f : Addr} {fd : FuncData} (F : Fun K "_law_part_of" "_law_part_of" s_l_part_of f fd) (M : Free mg) (mm : mg "min" = none) : FnOk P w K mg base CX0 1 f fd ["_law_web_here"] spPartOfL := by
  refine F.ok sc_l_part_of (fun vs H Q E h => ?_) (fun cdv A outer s H vs Q E hr h => ?_)
  · obtain ⟨v, n, ts, rfl, _⟩ := h
    rfl
  · obtain ⟨v, n, ts, rfl, ⟨a, b, us, rfl, ha, hb, hp⟩, ok, q⟩ := h
    have hk : n ≤ 40 := by have := ok.hi; omega
    refine ⟨_, (pss_cons (ps_set (i := 1) sc_l_part_of.nd rfl (.inl rfl) (pe_listRg rfl (by rfl) M.list (prg_1 (by rfl) M.range (pe_ix ix_tup (pv 0) pe_int (fun _ _ => rfl)))))
      (pss_cons (ps_for PassesOwn.never rfl (pi_range1 (by rfl) M.range (pa_cons (pe_ix ix_tup (pv 0) pe_int (fun _ _ => rfl)) pa_nil)) (pg_name (i := 2) sc_l_part_of.nd rfl (.inl rfl))
        (pss_one (ps_for PassesOwn.never rfl (pi_tup (pe_ix ix_tup (pv 0) pe_int (fun _ _ => rfl))) (pg_tup rfl (pgs_cons (pg_name (i := 3) sc_l_part_of.nd rfl (.inl rfl)) (pgs_cons (pg_name (i := 4) sc_l_part_of.nd rfl (.inl rfl)) (pgs_cons (pg_name (i := 5) sc_l_part_of.nd rfl (.inl rfl)) pgs_nil))))
          (pss_cons (ps_set (i := 6) sc_l_part_of.nd rfl (.inl rfl) (pe_callB (call_min2 rfl) (by rfl) mm (by decide +kernel) (pa_cons (pe_ix ix_list (pv 1) (pv 3) (fun _ _ => rfl)) (pa_cons (pe_ix ix_list (pv 1) (pv 4) (fun _ _ => rfl)) pa_nil))))
          (pss_cons (ps_asg (pv 6) (pg_sub (pv 1) (pv 3) set_list))
          (pss_one (ps_asg (pv 6) (pg_sub (pv 1) (pv 4) set_list))))))))
      (pss_one (ps_ret (pv 1))))), ?_⟩
    refine ⟨.ref a, rfl, a, _, 0, .int n, rfl, rfl, SqT.of ha, rfl, n, rfl, RgOk.of_le (by omega) (by omega) (by omega) (by omega), fun L nL => ?_⟩
    have e0 : rgV 0 n = lf (rounds ts 0) n := by rw [rgV_ints]; rfl
    rw [e0]
    refine ⟨.ref a, rfl, a, _, 0, .int n, rfl, rfl, SqT.of (same_new nL _ _ ha), rfl, n, rfl, by omega, by omega, ?_⟩
    rw [Int.toNat_natCast]
    refine for_range (lo := 0) (n := n) (fun r σ' H' => ∃ y2 y3 y4 y5 y6 : Option V, σ' = [some (.ref a), some (.ref L), y2, y3, y4, y5, y6] ∧ H' L = some (.lst (lf (rounds ts r) n)) ∧ Same H H') ?_ ?_ ?_
    · exact ⟨_, _, _, _, _, rfl, upd_same, same_new nL⟩
    · rintro r σ' H1 hr' ⟨y2, y3, y4, y5, y6, rfl, hL, s1⟩
      refine ⟨.ref a, rfl, a, _, 1, .ref b, rfl, rfl, SqT.of (s1 _ _ ha), rfl, b, rfl, ⟨_, SqT.of (s1 _ _ hb)⟩, ?_⟩
      have hlen : us.length = ts.length := Paired.length hp
      refine for_tup (xs := us) (fun i σ' H' => ∃ y2 y3 y4 y5 y6 : Option V, σ' = [some (.ref a), some (.ref L), y2, y3, y4, y5, y6] ∧ H' L = some (.lst (lf ((ts.take i).foldl relax (rounds ts r)) n)) ∧ Same H H') ?_ ?_ ?_ ?_
      · exact ⟨_, _, _, _, _, rfl, hL, s1⟩
      · rintro i σ' H' _ ⟨y2, y3, y4, y5, y6, rfl, _, s2⟩
        exact SqT.of (s2 _ _ hb)
      · rintro i x σ' H2 ex ⟨y2, y3, y4, y5, y6, rfl, hL2, s2⟩
        obtain ⟨t, et, c, rfl, hc⟩ := Paired.at hp ex
        obtain ⟨o1, o2, o3, o4, o5⟩ := ok.ok t (List.mem_of_getElem? et)
        have etk : (ts.take (i + 1)).foldl relax (rounds ts r) = relax ((ts.take i).foldl relax (rounds ts r)) t := by
          rw [List.take_add_one, et, List.foldl_append]
          rfl
        generalize (ts.take i).foldl relax (rounds ts r) = g at hL2 etk
        refine ⟨c, _, rfl, SqT.of (s2 _ _ hc), rfl, _, _, rfl, _, _, rfl, _, _, rfl, rfl, ?_⟩
        refine ⟨.ref L, rfl, .int t.one, rfl, L, _, t.one, _, rfl, rfl, SqL.of hL2, lf_at g o1 o2, .ref L, rfl, .int t.other, rfl, L, _, t.other, _, rfl, rfl, SqL.of hL2, lf_at g o3 o4, _, _, rfl, ?_⟩
        generalize hy : (if g t.other < g t.one then g t.other else g t.one) = y
        have hy' : y = min (g t.one) (g t.other) := by
          rw [← hy]
          split <;> omega
        refine ⟨.int y, rfl, .ref L, rfl, .int t.one, rfl, L, _, t.one, t.one.toNat, rfl, rfl, hL2, by rw [lf_len]; exact ixN_of o1 o2, ?_⟩
        rw [lf_set g o1 o2]
        refine ⟨.int y, rfl, .ref L, rfl, .int t.other, rfl, L, _, t.other, t.other.toNat, rfl, rfl, upd_same, by rw [lf_len]; exact ixN_of o3 o4, ?_⟩
        rw [lf_set _ o3 o4, relax_eq g t y hy', ← etk]
        exact ⟨_, _, _, _, _, rfl, upd_same, Same.mut (Same.mut s2 nL) nL⟩
      · rintro σ' H2 ⟨y2, y3, y4, y5, y6, rfl, hL2, s2⟩
        rw [hlen, List.take_length] at hL2
        exact ⟨_, _, _, _, _, rfl, hL2, s2⟩
    · rintro σ' H1 ⟨y2, y3, y4, y5, y6, rfl, hL, s1⟩
      exact ⟨.ref L, rfl, q L H1 nL s1 hL⟩
end

/-! ### flat or not: whatever the order of the faces, however the rows are turned -/
theorem Dec.fc {R : Dt → Dt → Prop} {D : Dt → Prop} {lab : Int → Int} {fs gs : List (List Dt)} (fn : ∀ x y y', R x y → R x y' → y = y') (nx : ∀ x y, R x y → lab x.2 = lab y.2) (h : Dec R D fs) (k : Dec R D gs) (c : Int) : fcC lab fs c = fcC lab gs c := by
  have one : ∀ {fs gs : List (List Dt)}, Dec R D fs → Dec R D gs → fcC lab fs c ≤ fcC lab gs c := fun {fs gs} h k => by
    refine h.le fn k _ fun f hf g hg ⟨x, xf, xg⟩ e => ?_
    have e' := of_decide_eq_true e
    rw [(h.cy f hf).hl nx xf] at e'
    exact decide_eq_true (by rw [(k.cy g hg).hl nx xg]; exact e')
  exact Nat.le_antisymm (one h k) (one k h)
def tcT (lab : Int → Int) (ts : List Tie) (c : Int) : Nat := ts.countP fun t => decide (lab t.one = c)
def FlatL (lab : Int → Int) (n : Nat) (ts : List Tie) (fs : List (List Dt)) : Prop := ∀ t ∈ ts, plC lab n (lab t.one) + fcC lab fs (lab t.one) = tcT lab ts (lab t.one) + 2
theorem FlatL.of {lab : Int → Int} {n : Nat} {ts : List Tie} {fs gs : List (List Dt)} (e : ∀ c, fcC lab fs c = fcC lab gs c) : FlatL lab n ts fs ↔ FlatL lab n ts gs :=
  ⟨fun h t ht => by rw [← e]; exact h t ht, fun h t ht => by rw [e]; exact h t ht⟩
theorem tw_lab {ts : List Tie} {es : List (Int × Int)} (tw : TwE ts es) {lab : Int → Int} : (∀ e ∈ es, lab e.1 = lab e.2) ↔ ∀ t ∈ ts, lab t.one = lab t.other := by
  constructor
  · intro h t ht
    obtain ⟨k, ek⟩ := List.getElem?_of_mem ht
    have hk := (List.getElem?_eq_some_iff.mp ek).1
    have ee := List.getElem?_eq_getElem (show k < es.length by rw [← tw.1]; exact hk)
    have := h _ (List.getElem_mem (show k < es.length by rw [← tw.1]; exact hk))
    rcases tw.2 k t _ ek ee with z | z <;> rw [z.1, z.2]
    · exact this
    · exact this.symm
  · intro h e he
    obtain ⟨k, ek⟩ := List.getElem?_of_mem he
    have hk := (List.getElem?_eq_some_iff.mp ek).1
    have ee := List.getElem?_eq_getElem (show k < ts.length by rw [tw.1]; exact hk)
    have := h _ (List.getElem_mem (show k < ts.length by rw [tw.1]; exact hk))
    rcases tw.2 k _ e ee ek with z | z <;> rw [z.1, z.2] at this
    · exact this
    · exact this.symm
theorem tc_eq {lab : Int → Int} {c : Int} : ∀ {ts : List Tie} {es : List (Int × Int)}, TwE ts es → (∀ e ∈ es, lab e.1 = lab e.2) → tcT lab ts c = tcC lab es c
  | [], [], _, _ => rfl
  | [], e :: es, tw, _ => by have := tw.1; simp at this
  | t :: ts, [], tw, _ => by have := tw.1; simp at this
  | t :: ts, e :: es, tw, l => by
    have ih := tc_eq (lab := lab) (c := c) (ts := ts) (es := es) ⟨by have := tw.1; simpa using this, fun k t' e' h1 h2 => tw.2 (k + 1) t' e' h1 h2⟩ fun e' he => l e' (List.mem_cons_of_mem _ he)
    have le := l e List.mem_cons_self
    have : lab t.one = lab e.1 := by
      rcases tw.2 0 t e rfl rfl with z | z <;> rw [z.1]
      exact le.symm
    unfold tcT tcC at ih ⊢
    rw [List.countP_cons, List.countP_cons, ih, this]
theorem cn_rch {ts : List Tie} {es : List (Int × Int)} (tw : TwE ts es) {p q : Int} (h : Cn es p q) : Rch ts p q := by
  have adj : ∀ e ∈ es, Rch ts e.1 e.2 := fun e he => by
    obtain ⟨k, ek⟩ := List.getElem?_of_mem he
    have hk : k < ts.length := by rw [tw.1]; exact (List.getElem?_eq_some_iff.mp ek).1
    have ee := List.getElem?_eq_getElem hk
    rcases tw.2 k _ e ee ek with z | z
    · exact Rch.adj ⟨_, List.getElem_mem hk, rfl, .inl ⟨z.1, z.2⟩⟩
    · exact Rch.adj ⟨_, List.getElem_mem hk, rfl, .inr ⟨z.1, z.2⟩⟩
  induction h with
  | refl => exact Rch.refl
  | fwd _ m ih => exact ih.trans (adj _ m)
  | bwd _ m ih => exact ih.trans (adj _ m).symm
theorem rch_lab {ts : List Tie} {lab : Int → Int} (l : ∀ t ∈ ts, lab t.one = lab t.other) {p q : Int} (h : Rch ts p q) : lab p = lab q := by
  refine h.ind (fun x => lab p = lab x) rfl fun x y k e ⟨t, ht, _, a⟩ => ?_
  rcases a with z | z
  · rw [e, ← z.1, ← z.2]; exact l t ht
  · rw [e, ← z.1, ← z.2]; exact (l t ht).symm
/-- what is grown is flat. -/
theorem Eul.flat {es : List (Int × Int)} {rs : List (List Int)} {lab : Int → Int} {fs : List (List Dt)} (u : Eul es rs lab fs) {ts : List Tie} (tw : TwE ts es) : FlatL lab rs.length ts fs := fun t ht => by
  obtain ⟨k, ek⟩ := List.getElem?_of_mem ht
  have hk : k < es.length := by rw [← tw.1]; exact (List.getElem?_eq_some_iff.mp ek).1
  have ee := List.getElem?_eq_getElem hk
  have hm := List.getElem_mem hk
  generalize es[k] = e at ee hm
  have en := u.od.ends e hm
  have lt : lab t.one = lab e.1 := by
    rcases tw.2 k t e ek ee with z | z <;> rw [z.1]
    exact (u.tie e hm).symm
  have hp : e.1.toNat < rs.length := by omega
  have er := List.getElem?_eq_getElem hp
  have ie : ((e.1.toNat : Nat) : Int) = e.1 := by omega
  have hx := (u.od.mem _ _ er (k : Int)).mpr ⟨k, e, rfl, ee, .inl ie.symm⟩
  have := u.eul _ _ er (fun z => by rw [z] at hx; cases hx)
  rw [ie] at this
  rw [lt, tc_eq tw u.tie]
  exact this
theorem part_lab {ts : List Tie} {n : Nat} {lab : Int → Int} (cls : ∀ x y, 0 ≤ x ∧ x < (n : Int) → 0 ≤ y ∧ y < (n : Int) → (lab x = lab y ↔ Rch ts x y)) {s z : Int} (hs : 0 ≤ s ∧ s < (n : Int)) (hz : 0 ≤ z ∧ z < (n : Int)) : z ∈ partOf ts n s ↔ lab z = lab s := by
  rw [mem_part, ← cls s z hs hz]
  exact ⟨fun h => h.2.symm, fun h => ⟨hz, h.symm⟩⟩
open Classical in
theorem flat_iff {ts : List Tie} {n : Nat} {lab : Int → Int} {fs : List (List Dt)} (ok : ∀ t ∈ ts, TieOk n t) (cls : ∀ x y, 0 ≤ x ∧ x < (n : Int) → 0 ≤ y ∧ y < (n : Int) → (lab x = lab y ↔ Rch ts x y)) (rg : ∀ f ∈ fs, ∀ x ∈ f, 0 ≤ x.2 ∧ x.2 < (n : Int)) : (partsTo ts n n).all (flatP ts fs) = true ↔ FlatL lab n ts fs := by
  have hlen : ∀ s, 0 ≤ s ∧ s < (n : Int) → (partOf ts n s).length = plC lab n (lab s) := fun s hs => by
    unfold partOf plC rng
    rw [← List.countP_eq_length_filter, List.countP_map]
    refine List.countP_congr fun p hp => ?_
    have hp' := List.mem_range.mp hp
    show decide (Rch ts s p) = true ↔ decide (lab p = lab s) = true
    rw [decide_eq_true_iff, decide_eq_true_iff, ← cls s p hs (by omega)]
    exact ⟨fun h => h.symm, fun h => h.symm⟩
  have htin : ∀ s, 0 ≤ s ∧ s < (n : Int) → tinC ts (partOf ts n s) = tcT lab ts (lab s) := fun s hs => by
    refine List.countP_congr fun t ht => ?_
    have o := ok t ht
    rw [decide_eq_true_iff, decide_eq_true_iff]
    exact part_lab cls hs ⟨o.1, o.2.1⟩
  have hown : ∀ s, 0 ≤ s ∧ s < (n : Int) → ownC (partOf ts n s) fs = fcC lab fs (lab s) := fun s hs => by
    refine List.countP_congr fun f hf => ?_
    cases f with
    | nil =>
      show (false = true) ↔ decide ((none : Option Int) = some (lab s)) = true
      simp
    | cons x xs =>
      show decide (x.2 ∈ partOf ts n s) = true ↔ decide (some (lab x.2) = some (lab s)) = true
      rw [decide_eq_true_iff, decide_eq_true_iff, Option.some.injEq]
      exact part_lab cls hs (rg _ hf x List.mem_cons_self)
  rw [List.all_eq_true]
  constructor
  · intro h t ht
    have o := ok t ht
    have ho : 0 ≤ t.one ∧ t.one < (n : Int) := ⟨o.1, o.2.1⟩
    obtain ⟨m, lm, hm, rm⟩ := has_leader ok ho
    have lt : lab t.one = lab m := ((cls m t.one hm ho).mpr rm).symm
    have := h (partOf ts n m) (by
      unfold partsTo
      exact List.mem_map.mpr ⟨m, List.mem_filter.mpr ⟨mem_rng.mpr hm, decide_eq_true lm⟩, rfl⟩)
    unfold flatP at this
    rw [decide_eq_true_iff, hlen m hm, htin m hm, hown m hm] at this
    rw [lt]
    refine this.resolve_left fun z => ?_
    exact List.countP_eq_zero.mp z t ht (decide_eq_true lt)
  · intro h P hP
    unfold partsTo at hP
    obtain ⟨s, hs, rfl⟩ := List.mem_map.mp hP
    have hs' := mem_rng.mp (List.mem_filter.mp hs).1
    unfold flatP
    rw [decide_eq_true_iff, hlen s hs', htin s hs', hown s hs']
    by_cases z : tcT lab ts (lab s) = 0
    · exact .inl z
    · obtain ⟨t, ht, e⟩ := List.countP_pos_iff.mp (Nat.pos_of_ne_zero z)
      have e' := of_decide_eq_true e
      have := h t ht
      rw [e'] at this
      exact .inr this
/-! ### flat or not: the rows turned, the rows backwards -/
theorem Rot.nx {es : List (Int × Int)} {rs rs' : List (List Int)} (h : Rot rs rs') {x y : Dt} (r : NxR es rs x y) : NxR es rs' x y := by
  obtain ⟨p, row, e1, e2, e3, c⟩ := r
  have hp := (List.getElem?_eq_some_iff.mp e1).1
  have er := List.getElem?_eq_getElem (show p < rs'.length by rw [h.len]; exact hp)
  obtain ⟨k, hk, e⟩ := h.each p row _ e1 er
  exact ⟨p, _, er, e2, e3, by rw [e]; exact c.rot hk⟩
def flipD (es : List (Int × Int)) (x : Dt) : Dt := (x.1, othE es x.1 x.2)
theorem othE_oth (es : List (Int × Int)) (k p : Int) : othE es k (othE es k p) = p := by
  unfold othE
  omega
theorem flip_flip (es : List (Int × Int)) (x : Dt) : flipD es (flipD es x) = x := Prod.ext rfl (othE_oth es x.1 x.2)
theorem DtE.flip {es : List (Int × Int)} {x : Dt} (h : DtE es x) : DtE es (flipD es x) := by
  obtain ⟨k, e, ek, e1, c⟩ := h
  have eo : ∀ p, othE es x.1 p = e.1 + e.2 - p := fun p => by
    unfold othE
    rw [e1, Int.toNat_natCast, List.getD_eq_getElem?_getD, ek]
    rfl
  refine ⟨k, e, ek, e1, ?_⟩
  show othE es x.1 x.2 = e.1 ∨ othE es x.1 x.2 = e.2
  rw [eo]
  rcases c with z | z <;> rw [z]
  · right; omega
  · left; omega
theorem CS.rev {row : List Int} {a b : Int} (h : CS row a b) : CS row.reverse b a := by
  obtain ⟨i, hi, e1, e2⟩ := h
  have hl : row.reverse.length = row.length := List.length_reverse
  by_cases c : i + 1 < row.length
  · rw [Nat.mod_eq_of_lt c] at e2
    refine ⟨row.length - 1 - (i + 1), by rw [hl]; omega, ?_, ?_⟩
    · rw [List.getElem?_reverse (by omega), show row.length - 1 - (row.length - 1 - (i + 1)) = i + 1 by omega]
      exact e2
    · rw [hl, show row.length - 1 - (i + 1) + 1 = row.length - 1 - i by omega, Nat.mod_eq_of_lt (by omega), List.getElem?_reverse (by omega), show row.length - 1 - (row.length - 1 - i) = i by omega]
      exact e1
  · have ei : i + 1 = row.length := by omega
    rw [ei, Nat.mod_self] at e2
    refine ⟨row.length - 1, by rw [hl]; omega, ?_, ?_⟩
    · rw [List.getElem?_reverse (by omega), show row.length - 1 - (row.length - 1) = 0 by omega]
      exact e2
    · rw [hl, show row.length - 1 + 1 = row.length by omega, Nat.mod_self, List.getElem?_reverse (by omega), show row.length - 1 - 0 = i by omega]
      exact e1
theorem NxR.rev {es : List (Int × Int)} {rs : List (List Int)} {x y : Dt} (r : NxR es rs x y) : NxR es (rs.map List.reverse) (flipD es y) (flipD es x) := by
  obtain ⟨p, row, e1, e2, e3, c⟩ := r
  refine ⟨p, row.reverse, by rw [List.getElem?_map, e1]; rfl, ?_, ?_, c.rev⟩
  · show othE es x.1 x.2 = (p : Int)
    rw [e3, othE_oth]
  · show othE es y.1 y.2 = othE es y.1 (p : Int)
    rw [e2]
theorem Wk.rev {R R' : Dt → Dt → Prop} {φ : Dt → Dt} (k : ∀ x y, R x y → R' (φ y) (φ x)) {b : Dt} : ∀ {xs : List Dt} {a : Dt}, Wk R a xs b → Wk R' (φ b) (xs.map φ).reverse (φ a)
  | [], _, h => k _ _ h
  | c :: cs, a, h => by
    rw [List.map_cons, List.reverse_cons]
    exact Wk.app.mpr ⟨Wk.rev k h.2, k _ _ h.1⟩
def mirF (es : List (Int × Int)) : List Dt → List Dt
  | [] => []
  | x :: xs => flipD es x :: (xs.map (flipD es)).reverse
theorem mem_mirF {es : List (Int × Int)} {f : List Dt} {z : Dt} : z ∈ mirF es f ↔ flipD es z ∈ f := by
  have key : ∀ l : List Dt, z ∈ l.map (flipD es) ↔ flipD es z ∈ l := fun l => by
    rw [List.mem_map]
    constructor
    · rintro ⟨w, hw, rfl⟩
      rw [flip_flip]
      exact hw
    · intro h
      exact ⟨_, h, flip_flip es z⟩
  cases f with
  | nil => exact ⟨fun h => (by cases h), fun h => (by cases h)⟩
  | cons x xs =>
    show z ∈ flipD es x :: (xs.map (flipD es)).reverse ↔ _
    rw [List.mem_cons, List.mem_reverse, key, List.mem_cons]
    refine or_congr_left ⟨fun h => by rw [h, flip_flip], fun h => by rw [← h, flip_flip]⟩
theorem Dec.rev {es : List (Int × Int)} {rs : List (List Int)} {fs : List (List Dt)} (h : Dec (NxR es rs) (DtE es) fs) : Dec (NxR es (rs.map List.reverse)) (DtE es) (fs.map (mirF es)) := by
  refine ⟨fun g hg => ?_, fun g hg => ?_, ?_, fun x => ⟨fun hx => ?_, fun ⟨g, hg, xg⟩ => ?_⟩⟩
  · obtain ⟨f, hf, rfl⟩ := List.mem_map.mp hg
    have := h.cy f hf
    cases f with
    | nil => exact this
    | cons x xs => exact Wk.rev (R := NxR es rs) (fun a b r => r.rev) this
  · obtain ⟨f, hf, rfl⟩ := List.mem_map.mp hg
    have := h.nd f hf
    cases f with
    | nil => exact List.nodup_nil
    | cons x xs =>
      have n1 := List.nodup_cons.mp this
      have inj : ∀ a b : Dt, flipD es a = flipD es b → a = b := fun a b e => by rw [← flip_flip es a, e, flip_flip]
      refine List.nodup_cons.mpr ⟨fun z => ?_, ?_⟩
      · obtain ⟨w, hw, e⟩ := List.mem_map.mp (List.mem_reverse.mp z)
        exact n1.1 (inj _ _ e ▸ hw)
      · refine (List.reverse_perm _).nodup_iff.mpr ?_
        rw [List.nodup_iff_pairwise_ne, List.pairwise_map]
        exact (List.nodup_iff_pairwise_ne.mp n1.2).imp fun ne e => ne (inj _ _ e)
  · rw [List.pairwise_map]
    exact h.dj.imp fun k x hx hy => k _ (mem_mirF.mp hx) (mem_mirF.mp hy)
  · obtain ⟨f, hf, xf⟩ := (h.all _).mp hx.flip
    exact ⟨_, List.mem_map.mpr ⟨f, hf, rfl⟩, mem_mirF.mpr xf⟩
  · obtain ⟨f, hf, rfl⟩ := List.mem_map.mp hg
    have := ((h.all _).mpr ⟨f, hf, mem_mirF.mp xg⟩).flip
    rwa [flip_flip] at this
theorem Ord.othLab {rs : List (List Int)} {es : List (Int × Int)} {lab : Int → Int} (t : ∀ e ∈ es, lab e.1 = lab e.2) {x : Dt} (h : DtE es x) : lab (flipD es x).2 = lab x.2 := by
  obtain ⟨k, e, ek, e1, c⟩ := h
  have tt := t e (List.mem_of_getElem? ek)
  have eo : (flipD es x).2 = e.1 + e.2 - x.2 := by
    show othE es x.1 x.2 = _
    unfold othE
    rw [e1, Int.toNat_natCast, List.getD_eq_getElem?_getD, ek]
    rfl
  rw [eo]
  rcases c with z | z <;> rw [z]
  · rw [show e.1 + e.2 - e.1 = e.2 by omega, tt]
  · rw [show e.1 + e.2 - e.2 = e.1 by omega, tt]
theorem Dec.revC {es : List (Int × Int)} {rs : List (List Int)} {fs : List (List Dt)} (h : Dec (NxR es rs) (DtE es) fs) {lab : Int → Int} (t : ∀ e ∈ es, lab e.1 = lab e.2) (c : Int) : fcC lab (fs.map (mirF es)) c = fcC lab fs c := by
  unfold fcC
  rw [List.countP_map]
  refine List.countP_congr fun f hf => ?_
  cases f with
  | nil => exact Iff.rfl
  | cons x xs =>
    show decide (some (lab (flipD es x).2) = some c) = true ↔ decide (some (lab x.2) = some c) = true
    rw [Ord.othLab (rs := rs) t ((h.all x).mpr ⟨_, hf, List.mem_cons_self⟩)]
/-- the web's own answer, told by any faces. -/
theorem flat_same {ts : List Tie} {es : List (Int × Int)} {rs rs' : List (List Int)} {lab : Int → Int} {n : Nat} {fs gs : List (List Dt)} (od' : Ord rs' es) (t : ∀ e ∈ es, lab e.1 = lab e.2) (h : Dec (NxR es rs) (DtE es) fs) (k : Dec (NxR es rs') (DtE es) gs) (r : Rot rs rs') : FlatL lab n ts fs ↔ FlatL lab n ts gs :=
  FlatL.of fun c => Dec.fc (NxR.fn od') (od'.nxLab t) (h.keep fun _ _ => r.nx) k c
theorem flat_back {ts : List Tie} {es : List (Int × Int)} {rs : List (List Int)} {lab : Int → Int} {n : Nat} {fs gs : List (List Dt)} (od' : Ord (rs.map List.reverse) es) (t : ∀ e ∈ es, lab e.1 = lab e.2) (h : Dec (NxR es rs) (DtE es) fs) (k : Dec (NxR es (rs.map List.reverse)) (DtE es) gs) : FlatL lab n ts fs ↔ FlatL lab n ts gs :=
  FlatL.of fun c => (h.revC t c).symm.trans (Dec.fc (NxR.fn od') (od'.nxLab t) h.rev k c)
/-! ### flats: _law_due -/
theorem endsL_lt {es : List (Int × Int)} {m : Nat} {x : Int × Int} (h : x ∈ endsL es m) : x.1 < (m : Int) := by
  unfold endsL at h
  obtain ⟨k, hk, h⟩ := List.mem_flatMap.mp h
  have hk := List.mem_range.mp hk
  rcases List.mem_cons.mp h with h | h
  · rw [h]; show (k : Int) < m; omega
  · rw [List.mem_singleton.mp h]; show (k : Int) < m; omega
theorem endsL_nd {rs : List (List Int)} {es : List (Int × Int)} (od : Ord rs es) : ∀ m, m ≤ es.length → (endsL es m).Nodup
  | 0, _ => List.nodup_nil
  | m + 1, h => by
    rw [endsL_succ]
    have ek := List.getElem?_eq_getElem (show m < es.length by omega)
    have eg : es.getD m (0, 0) = es[m] := by rw [List.getD_eq_getElem?_getD, ek]; rfl
    have ne := (od.ends _ (List.mem_of_getElem? ek)).2.2
    rw [eg]
    refine List.nodup_append.mpr ⟨endsL_nd od m (by omega), ?_, fun a ha b hb e => ?_⟩
    · refine List.nodup_cons.mpr ⟨fun z => ne (congrArg Prod.snd (List.mem_singleton.mp z)), by simp⟩
    · have := endsL_lt ha
      rcases List.mem_cons.mp hb with z | z
      · rw [e, z] at this; have : (m : Int) < m := this; omega
      · rw [e, List.mem_singleton.mp z] at this; have : (m : Int) < m := this; omega
def dueStep (bs : List St2) (st : List (Int × Int) × List (Int × Int) × (Int × Int)) : List (Int × Int) × List (Int × Int) × (Int × Int) := if st.2.2 ∈ st.1 then st else (addP st.1 st.2.2, st.2.1 ++ [st.2.2], nxB bs st.2.2)
theorem dueW_succ (bs : List St2) : ∀ (n : Nat) (st : List (Int × Int) × List (Int × Int) × (Int × Int)), dueW bs (n + 1) st = dueStep bs (dueW bs n st)
  | 0, (K, f, x) => rfl
  | n + 1, (K, f, x) => by
    show (if x ∈ K then dueW bs (n + 1) (K, f, x) else dueW bs (n + 1) (addP K x, f ++ [x], nxB bs x)) = dueStep bs (if x ∈ K then dueW bs n (K, f, x) else dueW bs n (addP K x, f ++ [x], nxB bs x))
    by_cases h : x ∈ K
    · rw [if_pos h, if_pos h]; exact dueW_succ bs n _
    · rw [if_neg h, if_neg h]; exact dueW_succ bs n _
theorem step_of {rs : List (List Int)} {es : List (Int × Int)} (od : Ord rs es) {x : Int × Int} (hx : x ∈ (stepsB es rs rs.length).map (·.1)) : ∃ (k p : Nat) (row : List Int) (i : Nat), k < es.length ∧ rs[p]? = some row ∧ row[i]? = some (k : Int) ∧ x = ((k : Int), othE es k p) ∧ nxB (stepsB es rs rs.length) x = (row.getD ((i + 1) % row.length) 0, (p : Int)) := by
  have r := stepsB_rnd od
  obtain ⟨b, hb, rfl⟩ := List.mem_map.mp hx
  obtain ⟨p, hp, z⟩ := stepsB_mem.mp hb
  have er := List.getElem?_eq_getElem hp
  have eg : rs.getD p [] = rs[p] := by rw [List.getD_eq_getElem?_getD, er]; rfl
  rw [eg] at z
  obtain ⟨i, hi, eb⟩ := stepR_memI.mp z
  have ei := List.getElem?_eq_getElem hi
  have gi : rs[p].getD i 0 = rs[p][i] := by rw [List.getD_eq_getElem?_getD, ei]; rfl
  obtain ⟨k, e, ek, ee, _⟩ := (od.mem p _ er rs[p][i]).mp (List.getElem_mem _)
  have hn : (b.1, nxB (stepsB es rs rs.length) b.1) = b := nd_inj r.nk (nxB_mem hx) hb rfl
  have hn2 : nxB (stepsB es rs rs.length) b.1 = b.2 := congrArg Prod.snd hn
  refine ⟨k, p, rs[p], i, (List.getElem?_eq_some_iff.mp ee).1, er, by rw [ei, ek], ?_, by rw [hn2, eb]⟩
  rw [eb, gi, ek]
theorem Paired.app2F {α β : Type} {R : α → β → Prop} : ∀ {xs : List α} {ys : List β} {xs' : List α} {ys' : List β}, Paired R xs ys → Paired R xs' ys' → Paired R (xs ++ xs') (ys ++ ys')
  | _, _, _, _, .nil, h => h
  | _, _, _, _, .cons a b, h => .cons a (Paired.app2F b h)
/-! ### k53: the law's own look -/
def spIsFlat : Sp := fun vs H Q _ => ∃ (wv : V) (n : Nat) (ts : List Tie) (o : Addr) (us : List V) (rs : List (List Int)) (es : List (Int × Int)), vs = [wv, .ref o] ∧ WebAt H wv n ts ∧ WebOk n ts ∧ H o = some (.tup us) ∧ Paired (IntsV H) us rs ∧ Ord rs es ∧ TwE ts es ∧ rs.length = n ∧ es.length ≤ 100 ∧
  ∀ b S H', Same H H' → (∀ x, x ∈ S ↔ x ∈ (stepsB es rs rs.length).map (·.1)) → (b = true ↔ FlatL (rounds ts n) n ts (facesG (stepsB es rs rs.length) S).1) → Q (.bl b) H'
theorem lf_congr {f g : Int → Int} {n : Nat} (h : ∀ x, f x = g x) : lf f n = lf g n := by rw [funext h]
theorem rep_lf : ∀ n : Nat, (List.replicate n [V.int 0]).flatten = lf (fun _ => 0) n
  | 0 => rfl
  | n + 1 => by
    rw [List.replicate_succ', List.flatten_append, rep_lf n]
    unfold lf
    rw [rng_succ, List.map_append]
    rfl
def kvB (L : List Int) : List (Key × V) := L.map fun c => (Sum.inl c, V.bl true)
def addB (L : List Int) (c : Int) : List Int := if c ∈ L then L else L ++ [c]
theorem kvB_val {q : Int} : ∀ {L : List Int}, valV (kvB L) (Sum.inl q) = if q ∈ L then some (.bl true) else none
  | [] => rfl
  | p :: L => by
    show valV (((Sum.inl p : Key), V.bl true) :: kvB L) (Sum.inl q) = _
    by_cases e : p = q
    · rw [valV_pos (p := ((Sum.inl p : Key), V.bl true)) (by rw [e]), e, if_pos List.mem_cons_self]
    · rw [valV_neg (p := ((Sum.inl p : Key), V.bl true)) (fun z => e (Sum.inl.inj z)), kvB_val (L := L)]
      by_cases h : q ∈ L
      · rw [if_pos h, if_pos (List.mem_cons_of_mem _ h)]
      · rw [if_neg h, if_neg fun z => h ((List.mem_cons.mp z).resolve_left fun y => e y.symm)]
theorem kvB_put {L : List Int} {q : Int} : putK (kvB L) (Sum.inl q) (.bl true) = kvB (addB L q) := by
  unfold putK
  rw [valV_any, kvB_val]
  unfold addB
  by_cases h : q ∈ L
  · rw [if_pos h, if_pos h]
    show List.map (fun kv : Key × V => if kv.1 = Sum.inl q then (kv.1, V.bl true) else kv) (kvB L) = _
    unfold kvB
    rw [List.map_map]
    refine List.map_congr_left fun p _ => ?_
    show (if (Sum.inl p : Key) = Sum.inl q then ((Sum.inl p : Key), V.bl true) else (Sum.inl p, V.bl true)) = _
    split <;> rfl
  · rw [if_neg h, if_neg h, if_neg (by simp)]
    unfold kvB
    rw [List.map_append]
    rfl
theorem addB_mem {L : List Int} {q x : Int} : x ∈ addB L q ↔ x ∈ L ∨ x = q := by
  unfold addB
  by_cases h : q ∈ L
  · rw [if_pos h]
    exact ⟨.inl, fun z => z.elim id fun y => y ▸ h⟩
  · rw [if_neg h, List.mem_append, List.mem_singleton]
theorem addB_len {L : List Int} {q : Int} : (addB L q).length ≤ L.length + 1 := by
  unfold addB
  split
  · omega
  · rw [List.length_append, List.length_singleton]
    omega
theorem tcT_succ {lab : Int → Int} {ts : List Tie} {i : Nat} {t : Tie} (h : ts[i]? = some t) (c : Int) : tcT lab (ts.take (i + 1)) c = tcT lab (ts.take i) c + if lab t.one = c then 1 else 0 := by
  unfold tcT
  rw [List.take_add_one, h, List.countP_append]
  show _ + List.countP _ [t] = _
  rw [List.countP_singleton]
  by_cases z : lab t.one = c
  · rw [if_pos z, if_pos (decide_eq_true z)]
  · rw [if_neg z, if_neg (by rw [decide_eq_false z]; exact Bool.false_ne_true)]
structure Lk3 (lab : Int → Int) (n : Nat) (ts : List Tie) (bs : List St2) (L : List Int) (C P0 D0 : Addr) (H1 : Hp) (S : List Dt) (H' : Hp) : Prop where
  hC : H' C = some (.lst (lf (fun c => ((plC lab n c : Nat) : Int) - (tcT lab ts c : Nat) + (fcC lab (facesG bs S).1 c : Nat)) n))
  hP : H' P0 = some (.dT (kvP (facesG bs S).2))
  nd : (facesG bs S).2.Nodup
  in' : ∀ q ∈ (facesG bs S).2, q ∈ bs.map (·.1)
  wh : Whole bs (facesG bs S).2
  hD : H' D0 = some (.dK (kvB L))
  sub : ∀ x ∈ S, x ∈ bs.map (·.1)
  sm : Same H1 H'
theorem Lk3.same {lab : Int → Int} {n : Nat} {ts : List Tie} {bs : List St2} {L : List Int} {C P0 D0 : Addr} {H1 H' H'' : Hp} {S : List Dt} (h : Lk3 lab n ts bs L C P0 D0 H1 S H') (s : Same H' H'') : Lk3 lab n ts bs L C P0 D0 H1 S H'' :=
  ⟨s _ _ h.hC, s _ _ h.hP, h.nd, h.in', h.wh, s _ _ h.hD, h.sub, h.sm.trans s⟩
theorem Lk3.old {lab : Int → Int} {n : Nat} {ts : List Tie} {bs : List St2} {L : List Int} {C P0 D0 : Addr} {H1 H' : Hp} {S : List Dt} (h : Lk3 lab n ts bs L C P0 D0 H1 S H') {s : Dt} (hs : s ∈ bs.map (·.1)) (k : s ∈ (facesG bs S).2) : Lk3 lab n ts bs L C P0 D0 H1 (S ++ [s]) H' := by
  have e : facesG bs (S ++ [s]) = facesG bs S := by
    rw [facesG_snoc]
    unfold faceStep
    rw [if_pos k]
  refine ⟨by rw [e]; exact h.hC, by rw [e]; exact h.hP, by rw [e]; exact h.nd, by rw [e]; exact h.in', by rw [e]; exact h.wh, h.hD, fun x hx => ?_, h.sm⟩
  rcases List.mem_append.mp hx with z | z
  · exact h.sub x z
  · rw [List.mem_singleton.mp z]; exact hs
section
variable {P : Program} {w : World} {K : PySem.W.Frag} {mg : Str → Option Value} {base : Heap}
set_option maxHeartbeats 4000000 in
theorem ok_l_is_flat {f : Addr} {fd : FuncData} (F : Fun K "_law_is_flat" "_law_is_flat" s_l_is_flat f fd) (M : Free mg) (m_enumerate : mg "enumerate" = none) (D_l_part_of : Df P w K mg base 1 "_law_part_of" ["_law_web_here"] spPartOfL) (D_l_behind : Df P w K mg base 1 "_law_behind" ["_law_web_here", "_law_orders", "_law_step"] spBehindL) : FnOk P w K mg base CX0 2 f fd ["_law_web_here", "_law_orders"] spIsFlat := by
  obtain ⟨f_l_part_of, fd_l_part_of, G_l_part_of, g_l_part_of, k_l_part_of, b_l_part_of⟩ := D_l_part_of
  obtain ⟨f_l_behind, fd_l_behind, G_l_behind, g_l_behind, k_l_behind, b_l_behind⟩ := D_l_behind
  refine F.ok sc_l_is_flat (fun vs H Q E h => ?_) (fun cdv A outer s H vs Q E hr h => ?_)
  · obtain ⟨wv, n, ts, o, us, rs, es, rfl, _⟩ := h
    rfl
  · obtain ⟨wv, n, ts, o, us, rs, es, rfl, hW, ok, ho, hp, od, tw, lr, le, q⟩ := h
    have hu := room1 hr
    refine ⟨_, (pss_cons (ps_set (i := 2) sc_l_is_flat.nd rfl (.inl rfl) (pe_call G_l_part_of (hr.mono (by decide)) (by rfl) g_l_part_of k_l_part_of b_l_part_of .nil pass0 (pa_cons (pv 0) pa_nil)))
      (pss_cons (ps_set (i := 3) sc_l_is_flat.nd rfl (.inr rfl) (pe_op op_rep (pe_lst (pa_cons pe_int pa_nil)) (pe_ix ix_tup (pv 0) pe_int (fun _ _ => rfl))))
      (pss_cons (ps_for PassesOwn.never rfl (pi_range1 (by rfl) M.range (pa_cons (pe_ix ix_tup (pv 0) pe_int (fun _ _ => rfl)) pa_nil)) (pg_name (i := 4) sc_l_is_flat.nd rfl (.inl rfl))
        (pss_one (ps_asg (pe_op op_add (pe_ix ix_list (pv 3) (pe_ix ix_list (pv 2) (pv 4) (fun _ _ => rfl)) (fun _ _ => rfl)) pe_int) (pg_sub (pv 3) (pe_ix ix_list (pv 2) (pv 4) (fun _ _ => rfl)) set_list))))
      (pss_cons (ps_set (i := 5) sc_l_is_flat.nd rfl (.inl rfl) pe_dnewT)
      (pss_cons (ps_set (i := 6) sc_l_is_flat.nd rfl (.inl rfl) pe_dnewK)
      (pss_cons (ps_for PassesOwn.never rfl (pi_enumT (by rfl) m_enumerate (pa_cons (pe_ix ix_tup (pv 0) pe_int (fun _ _ => rfl)) pa_nil)) (pg_tup rfl (pgs_cons (pg_name (i := 7) sc_l_is_flat.nd rfl (.inl rfl)) (pgs_cons (pg_name (i := 8) sc_l_is_flat.nd rfl (.inl rfl)) pgs_nil)))
        (pss_cons (ps_dput hu (pv 6) (pe_ix ix_list (pv 2) (pe_ix ix_tup (pv 8) pe_int (fun _ _ => rfl)) (fun _ _ => rfl)) pe_bl rfl)
        (pss_one (ps_asg (pe_op op_sub (pe_ix ix_list (pv 3) (pe_ix ix_list (pv 2) (pe_ix ix_tup (pv 8) pe_int (fun _ _ => rfl)) (fun _ _ => rfl)) (fun _ _ => rfl)) pe_int) (pg_sub (pv 3) (pe_ix ix_list (pv 2) (pe_ix ix_tup (pv 8) pe_int (fun _ _ => rfl)) (fun _ _ => rfl)) set_list)))))
      (pss_cons (ps_for PassesOwn.never rfl (pi_enumT (by rfl) m_enumerate (pa_cons (pe_ix ix_tup (pv 0) pe_int (fun _ _ => rfl)) pa_nil)) (pg_tup rfl (pgs_cons (pg_name (i := 7) sc_l_is_flat.nd rfl (.inl rfl)) (pgs_cons (pg_name (i := 8) sc_l_is_flat.nd rfl (.inl rfl)) pgs_nil)))
        (pss_one (ps_for PassesOwn.never rfl (pi_tup (pe_slice sl_tupU (pv 8) po_none (po_some pe_int))) (pg_name (i := 4) sc_l_is_flat.nd rfl (.inl rfl))
          (pss_one (ps_if (pt_cmp (pc_dnotin hu (pe_tup (pa_cons (pv 7) (pa_cons (pv 4) pa_nil))) (pv 5)))
            (pss_cons (ps_asg (pe_op op_add (pe_ix ix_list (pv 3) (pe_ix ix_list (pv 2) (pv 4) (fun _ _ => rfl)) (fun _ _ => rfl)) pe_int) (pg_sub (pv 3) (pe_ix ix_list (pv 2) (pv 4) (fun _ _ => rfl)) set_list))
            (pss_cons (ps_set (i := 9) sc_l_is_flat.nd rfl (.inl rfl) (pe_tup (pa_cons (pv 7) (pa_cons (pv 4) pa_nil))))
            (pss_one (ps_for PassesOwn.never rfl (pi_range1 (by rfl) M.range (pa_cons (pe_op op_mul pe_int (pe_callB call_len_seq (by rfl) M.len PySem.boot_len (pa_cons (pe_ix ix_tup (pv 0) pe_int (fun _ _ => rfl)) pa_nil))) pa_nil)) (pg_name (i := 10) sc_l_is_flat.nd rfl (.inl rfl))
              (pss_one (ps_if (pt_cmp (pc_dnotin hu (pv 9) (pv 5)))
                (pss_cons (ps_dput hu (pv 5) (pv 9) pe_bl rfl)
                (pss_one (ps_set (i := 9) sc_l_is_flat.nd rfl (.inl rfl) (pe_call G_l_behind (hr.mono (by decide)) (by rfl) g_l_behind k_l_behind b_l_behind .nil pass0 (pa_cons (pv 0) (pa_cons (pv 1) (pa_cons (pv 9) pa_nil)))))))
                pss_nil))))))
            pss_nil)))))
      (pss_one (ps_ret (pe_cmpR (op_eqE hr.units0) (pe_lock (pe_lc (own := [("_law_part", 11)]) (g := (gName 11)) (te := tVar 11) rfl sc_l_is_flat.nd (pi_keys (pv 6)) (blkOk_by (N := N_l_is_flat) (sc := defScope s_l_is_flat) (own := [("_law_part", 11)]) (by decide +kernel)) (fun _ _ _ _ _ => (pg_name (i := 11) sc_l_is_flat.nd rfl (.inl rfl))) (fun _ _ _ _ _ => (pts_one (pt_cmpR op_ne (pe_ix (r := rIxL K) ix_list (pv 3) (pv 11) (fun _ _ => rfl)) pe_int (nomark _)))) (fun _ _ _ _ _ => (pv 11)))) (pe_lst pa_nil) (nomark _))))))))))), ?_⟩
    obtain ⟨wa, wb, ws0, rfl, hwa, hwb, hpw⟩ := id hW
    have lw : ws0.length = ts.length := Paired.length hpw
    have lt : ts.length = es.length := tw.1
    have hi := ok.hi
    have lrg : ∀ x : Int, 0 ≤ x → x < (n : Int) → 0 ≤ rounds ts n x ∧ rounds ts n x < (n : Int) := fun x h0 h1 => (rounds_rch ts n x).rng ok.ok ⟨h0, h1⟩
    refine ⟨.ref wa, rfl, .ref wa, n, ts, rfl, hW, ok, fun A1 H1 nA s1 hA1 => ?_⟩
    generalize hlab : rounds ts n = lab at hA1 lrg q
    refine ⟨by show 1 ≤ sizeLine; decide, fun C0 nC0 => ?_⟩
    have s2 := same_new (o := .lst [.int 0]) nC0
    refine ⟨.ref wa, rfl, wa, _, 0, .int n, rfl, rfl, SqT.of (s2 _ _ (s1 _ _ hwa)), rfl, C0, (n : Int), _, rfl, rfl, upd_same, by omega, by omega, (by rw [Int.toNat_natCast]; exact Nat.le_of_lt (small1000 (by show 1 * n ≤ 1000; omega))), fun C nC => ?_⟩
    have s3 := same_new (o := .lst (List.replicate ((n : Int).toNat) [V.int 0]).flatten) nC
    have eC : (List.replicate ((n : Int).toNat) [V.int 0]).flatten = lf (fun c => (plC lab 0 c : Nat)) n := by
      rw [Int.toNat_natCast]
      exact rep_lf n
    rw [eC]
    rw [eC] at s3
    have hC3 : (upd (upd H1 C0 (.lst [.int 0])) C (.lst (lf (fun c => (plC lab 0 c : Nat)) n))) C = some (.lst (lf (fun c => (plC lab 0 c : Nat)) n)) := upd_same
    have nC1 : H1 C = none := s2.free nC
    have nC2 : H C = none := s1.free nC1
    have AC : A1 ≠ C := ne_of_none hA1 nC1
    have s13 : Same H1 (upd (upd H1 C0 (.lst [.int 0])) C (.lst (lf (fun c => (plC lab 0 c : Nat)) n))) := s2.trans s3
    generalize upd (upd H1 C0 (.lst [.int 0])) C (.lst (lf (fun c => (plC lab 0 c : Nat)) n)) = H3 at hC3 s13
    refine ⟨.ref wa, rfl, wa, _, 0, .int n, rfl, rfl, SqT.of (s13 _ _ (s1 _ _ hwa)), rfl, n, rfl, by omega, by omega, ?_⟩
    refine for_range (lo := 0) (n := (n : Int).toNat) (fun i σ' H' => ∃ (y4 : Option V), σ' = [some (.ref wa), some (.ref o), some (.ref A1), some (.ref C), y4, none, none, none, none, none, none, none] ∧ H' C = some (.lst (lf (fun c => (plC lab i c : Nat)) n)) ∧ Same H1 H') ⟨none, rfl, hC3, s13⟩ ?_ ?_
    · rintro i σ' H4 hi4 ⟨y4, rfl, hC4, s4⟩
      have hi5 : i < n := by omega
      have lg := lrg (i : Int) (by omega) (by omega)
      have hA4 := s4 _ _ hA1
      have e0 : (0 : Int) + (i : Nat) = (i : Nat) := by omega
      rw [e0]
      refine ⟨.ref C, rfl, .ref A1, rfl, .int (i : Nat), rfl, A1, _, (i : Nat), .int (lab i), rfl, rfl, SqL.of hA4, lf_at _ (by omega) (by omega), C, _, lab i, _, rfl, rfl, SqL.of hC4, lf_at _ lg.1 lg.2, _, _, rfl, rfl, ?_⟩
      refine ⟨.ref C, rfl, .ref A1, rfl, .int (i : Nat), rfl, A1, _, (i : Nat), .int (lab i), rfl, rfl, SqL.of hA4, lf_at _ (by omega) (by omega), C, _, lab i, (lab i).toNat, rfl, rfl, hC4, by rw [lf_len]; exact ixN_of lg.1 lg.2, ?_⟩
      refine ⟨_, rfl, ?_, Same.mut s4 nC1⟩
      rw [upd_same, lf_set _ lg.1 lg.2]
      congr 2
      refine lf_congr fun x => ?_
      show (if x = lab i then ((plC lab i (lab i) : Nat) : Int) + 1 else ((plC lab i x : Nat) : Int)) = _
      rw [plC_succ]
      by_cases z : x = lab i
      · rw [if_pos z, z, if_pos rfl]; rfl
      · rw [if_neg z, if_neg (fun y => z y.symm)]; rfl
    rintro σ' H4 ⟨y4, rfl, hC4, s4⟩
    rw [Int.toNat_natCast] at hC4
    refine fun P0 nP D0 nD => ?_
    have sP := same_new (o := .dT []) nP
    have hP5 : (upd H4 P0 (.dT [])) P0 = some (.dT (kvP [])) := upd_same
    have sD := same_new (o := .dK []) nD
    have hD5 := upd_same (H := upd H4 P0 (.dT [])) (a := D0) (o := .dK [])
    have hP6 := sD _ _ hP5
    have hC6 := sD _ _ (sP _ _ hC4)
    have CP : C ≠ P0 := ne_of_none hC4 nP
    have CD : C ≠ D0 := ne_of_none (sP _ _ hC4) nD
    have PD : P0 ≠ D0 := ne_of_none hP5 nD
    have nP1 : H1 P0 = none := s4.free nP
    have nD1 : H1 D0 = none := (s4.trans sP).free nD
    have s6 := s4.trans (sP.trans sD)
    have hD6 : (upd (upd H4 P0 (.dT [])) D0 (.dK [])) D0 = some (.dK (kvB [])) := upd_same
    clear hD5 hC4 s4
    generalize upd (upd H4 P0 (.dT [])) D0 (.dK []) = H6 at hP6 hC6 hD6 s6
    refine ⟨.ref wa, rfl, wa, _, 1, .ref wb, rfl, rfl, SqT.of (s6 _ _ (s1 _ _ hwa)), rfl, wb, ws0, rfl, SqT.of (s6 _ _ (s1 _ _ hwb)), ?_⟩
    refine for_it (walk_enumT (xs := ws0)) (fun i σ' H' => ∃ (y4 y7 y8 : Option V) (L : List Int), σ' = [some (.ref wa), some (.ref o), some (.ref A1), some (.ref C), y4, some (.ref P0), some (.ref D0), y7, y8, none, none, none] ∧ H' C = some (.lst (lf (fun c => ((plC lab n c : Nat) : Int) - (tcT lab (ts.take i) c : Nat)) n)) ∧ H' P0 = some (.dT (kvP [])) ∧ H' D0 = some (.dK (kvB L)) ∧ (∀ x, x ∈ L ↔ ∃ t ∈ ts.take i, lab t.one = x) ∧ L.length ≤ i ∧ Same H1 H') ⟨y4, none, none, [], rfl, by rw [hC6]; exact congrArg (fun l => some (HO.lst l)) (lf_congr fun x => (by show ((plC lab n x : Nat) : Int) = ((plC lab n x : Nat) : Int) - ((0 : Nat) : Int); omega)), hP6, hD6, fun x => ⟨fun z => (by cases z), fun ⟨t, z, _⟩ => (by rw [List.take_zero] at z; cases z)⟩, Nat.zero_le _, s6⟩ (fun i σ' H' _ h => by
      obtain ⟨_, _, _, _, _, _, _, _, _, _, s⟩ := h
      exact SqT.of (s _ _ (s1 _ _ hwb))) ?_ ?_
    · clear hP6 hC6 hD6 s6
      rintro i x σ' H7 H8 hi7 ⟨y4, y7, y8, L, rfl, hC7, hP7, hD7, mL, lL, s7⟩ ⟨T, x1, yy, rfl, nT, rfl, gx, gy⟩
      obtain rfl : V.int (i : Nat) = x1 := Option.some.inj gx
      have gy : ws0[i]? = some yy := gy
      obtain ⟨t, et, c, rfl, hc⟩ := Paired.at hpw gy
      have okt := ok.ok t (List.mem_of_getElem? et)
      have il := (List.getElem?_eq_some_iff.mp et).1
      have few := ok.few
      have lg := lrg t.one okt.1 okt.2.1
      have sT := same_new (o := .tup [.int (i : Nat), .ref c]) nT
      have hT8 := upd_same (H := H7) (a := T) (o := .tup [.int (i : Nat), .ref c])
      have hC8 := sT _ _ hC7
      have hP8 := sT _ _ hP7
      have hD8 := sT _ _ hD7
      have s8 := s7.trans sT
      clear hC7 hP7 hD7 s7
      generalize upd H7 T (.tup [.int (i : Nat), .ref c]) = H8 at hT8 hC8 hP8 hD8 s8
      have hc8 := s8 _ _ (s1 _ _ hc)
      have hA8 := s8 _ _ hA1
      refine ⟨T, _, rfl, SqT.of hT8, rfl, _, _, rfl, _, _, rfl, rfl, ?_⟩
      refine ⟨.ref D0, rfl, .ref A1, rfl, .ref c, rfl, c, _, 0, .int t.one, rfl, rfl, SqT.of hc8, rfl, A1, _, t.one, .int (lab t.one), rfl, rfl, SqL.of hA8, lf_at _ okt.1 okt.2.1, D0, _, rfl, DPut.k (k := Sum.inl (lab t.one)) hD8 (by unfold kvB; rw [List.length_map]; exact small1000 (by omega)), ?_⟩
      rw [kvB_put]
      have nL : (kvB (addB L (lab t.one))).length ≤ 0 + (i + 1) := by
        unfold kvB
        rw [List.length_map]
        have := addB_len (L := L) (q := lab t.one)
        omega
      have hA9 : (upd H8 D0 (.dK (kvB (addB L (lab t.one))))) A1 = some (.lst (lf lab n)) := by rw [upd_ne (ne_of_none hA1 nD1)]; exact hA8
      have hC9 : (upd H8 D0 (.dK (kvB (addB L (lab t.one))))) C = some (.lst (lf (fun c => ((plC lab n c : Nat) : Int) - (tcT lab (ts.take i) c : Nat)) n)) := by rw [upd_ne CD]; exact hC8
      have hP9 : (upd H8 D0 (.dK (kvB (addB L (lab t.one))))) P0 = some (.dT (kvP [])) := by rw [upd_ne PD]; exact hP8
      have hD9 : (upd H8 D0 (.dK (kvB (addB L (lab t.one))))) D0 = some (.dK (kvB (addB L (lab t.one)))) := upd_same
      have s9 : Same H1 (upd H8 D0 (.dK (kvB (addB L (lab t.one))))) := Same.mut s8 nD1
      generalize upd H8 D0 (.dK (kvB (addB L (lab t.one)))) = H9 at hA9 hC9 hP9 hD9 s9
      have hc9 := s9 _ _ (s1 _ _ hc)
      refine ⟨.ref C, rfl, .ref A1, rfl, .ref c, rfl, c, _, 0, .int t.one, rfl, rfl, SqT.of hc9, rfl, A1, _, t.one, .int (lab t.one), rfl, rfl, SqL.of hA9, lf_at _ okt.1 okt.2.1, C, _, lab t.one, _, rfl, rfl, SqL.of hC9, lf_at _ lg.1 lg.2, _, _, rfl, rfl, ?_⟩
      refine ⟨.ref C, rfl, .ref A1, rfl, .ref c, rfl, c, _, 0, .int t.one, rfl, rfl, SqT.of hc9, rfl, A1, _, t.one, .int (lab t.one), rfl, rfl, SqL.of hA9, lf_at _ okt.1 okt.2.1, C, _, lab t.one, (lab t.one).toNat, rfl, rfl, hC9, by rw [lf_len]; exact ixN_of lg.1 lg.2, ?_⟩
      refine ⟨_, _, _, addB L (lab t.one), rfl, ?_, by rw [upd_ne CP.symm]; exact hP9, by rw [upd_ne CD.symm]; exact hD9, fun x => ?_, by have := addB_len (L := L) (q := lab t.one); omega, Same.mut s9 nC1⟩
      · rw [upd_same, lf_set _ lg.1 lg.2]
        refine congrArg (fun l => some (HO.lst l)) (lf_congr fun x => ?_)
        show (if x = lab t.one then (((plC lab n (lab t.one) : Nat) : Int) - ((tcT lab (ts.take i) (lab t.one) : Nat) : Int)) - 1 else ((plC lab n x : Nat) : Int) - ((tcT lab (ts.take i) x : Nat) : Int)) = ((plC lab n x : Nat) : Int) - ((tcT lab (ts.take (i + 1)) x : Nat) : Int)
        rw [tcT_succ et]
        by_cases z : x = lab t.one
        · rw [if_pos z, z, if_pos rfl]; omega
        · rw [if_neg z, if_neg (fun y => z y.symm)]; omega
      · rw [addB_mem, mL x, List.take_add_one, et]
        constructor
        · rintro (⟨t', ht', e⟩ | e)
          · exact ⟨t', List.mem_append_left _ ht', e⟩
          · exact ⟨t, List.mem_append_right _ (List.mem_singleton.mpr rfl), e.symm⟩
        · rintro ⟨t', ht', e⟩
          rcases List.mem_append.mp ht' with z | z
          · exact .inl ⟨t', z, e⟩
          · have : t' = t := List.mem_singleton.mp z
            exact .inr (this ▸ e.symm)
    rintro σ' H7 ⟨y4', y7, y8, L, rfl, hC7, hP7, hD7, mL, lL, s7⟩
    rw [lw, List.take_length] at hC7
    rw [lw] at lL
    have mL' : ∀ x, x ∈ L ↔ ∃ t ∈ ts, lab t.one = x := fun x => by
      have := mL x
      rw [lw, List.take_length] at this
      exact this
    clear mL hP6 hC6 hD6 s6 hC3 s13
    have rnd := stepsB_rnd od
    have few := stepsB_few od
    have step := @step_of rs es od
    have key : ∀ (k : Nat) (t : Tie), ts[k]? = some t → ((k : Int), t.one) ∈ (stepsB es rs rs.length).map (·.1) ∧ ((k : Int), t.other) ∈ (stepsB es rs rs.length).map (·.1) := fun k t et => by
      have hk : k < es.length := by rw [← lt]; exact (List.getElem?_eq_some_iff.mp et).1
      have ee := List.getElem?_eq_getElem hk
      rcases tw.2 k t _ et ee with z | z
      · exact ⟨(stepsB_key od).mpr ⟨k, _, ee, rfl, .inl z.1⟩, (stepsB_key od).mpr ⟨k, _, ee, rfl, .inr z.2⟩⟩
      · exact ⟨(stepsB_key od).mpr ⟨k, _, ee, rfl, .inr z.1⟩, (stepsB_key od).mpr ⟨k, _, ee, rfl, .inl z.2⟩⟩
    have key2 : ∀ x ∈ (stepsB es rs rs.length).map (·.1), ∃ (k : Nat) (t : Tie), ts[k]? = some t ∧ (x = ((k : Int), t.one) ∨ x = ((k : Int), t.other)) := fun x hx => by
      obtain ⟨k, e, ee, e1, c⟩ := (stepsB_key od).mp hx
      have hk : k < ts.length := by rw [lt]; exact (List.getElem?_eq_some_iff.mp ee).1
      have et := List.getElem?_eq_getElem hk
      refine ⟨k, _, et, ?_⟩
      rcases tw.2 k _ e et ee with z | z
      · rcases c with c | c
        · exact .inl (Prod.ext e1 (c.trans z.1.symm))
        · exact .inr (Prod.ext e1 (c.trans z.2.symm))
      · rcases c with c | c
        · exact .inr (Prod.ext e1 (c.trans z.2.symm))
        · exact .inl (Prod.ext e1 (c.trans z.1.symm))
    have pK : ∀ x, DtE es x ↔ x ∈ (stepsB es rs rs.length).map (·.1) := fun x => dtE_iff od
    generalize ebs : stepsB es rs rs.length = bs at rnd few step key key2 pK q
    have few2 := ok.few
    have k0 : Lk3 lab n ts bs L C P0 D0 H1 [] H7 := ⟨by rw [hC7]; exact congrArg (fun l => some (HO.lst l)) (lf_congr fun x => (by show ((plC lab n x : Nat) : Int) - ((tcT lab ts x : Nat) : Int) = ((plC lab n x : Nat) : Int) - ((tcT lab ts x : Nat) : Int) + ((0 : Nat) : Int); omega)), hP7, List.nodup_nil, fun q hq => (by cases hq), fun x _ => ⟨fun h => (by cases h), fun h => (by cases h)⟩, hD7, fun x hx => (by cases hx), s7⟩
    refine ⟨.ref wa, rfl, wa, _, 1, .ref wb, rfl, rfl, SqT.of (s7 _ _ (s1 _ _ hwa)), rfl, wb, ws0, rfl, SqT.of (s7 _ _ (s1 _ _ hwb)), ?_⟩
    refine for_it (walk_enumT (xs := ws0)) (fun i σ' H' => ∃ (y4 y7 y8 y9 y10 : Option V) (S : List Dt), σ' = [some (.ref wa), some (.ref o), some (.ref A1), some (.ref C), y4, some (.ref P0), some (.ref D0), y7, y8, y9, y10, none] ∧ Lk3 lab n ts bs L C P0 D0 H1 S H' ∧ (∀ (k : Nat) (t : Tie), k < i → ts[k]? = some t → ((k : Int), t.one) ∈ S ∧ ((k : Int), t.other) ∈ S)) ⟨_, _, _, _, _, [], rfl, k0, fun k t hk => (by omega)⟩ (fun i σ' H' _ h => by
      obtain ⟨_, _, _, _, _, _, _, h, _⟩ := h
      exact SqT.of (h.sm _ _ (s1 _ _ hwb))) ?_ ?_
    · clear k0 hC7 hP7 hD7 s7
      rintro i x σ' H8 H9 hi8 ⟨y4, y7, y8, y9, y10, S, rfl, k8, c8⟩ ⟨T, x1, yy, rfl, nT, rfl, gx, gy⟩
      obtain rfl : V.int (i : Nat) = x1 := Option.some.inj gx
      have gy : ws0[i]? = some yy := gy
      obtain ⟨t, et, c, rfl, hc⟩ := Paired.at hpw gy
      have okt := ok.ok t (List.mem_of_getElem? et)
      have il := (List.getElem?_eq_some_iff.mp et).1
      obtain ⟨ke1, ke2⟩ := key i t et
      have sT := same_new (o := .tup [.int (i : Nat), .ref c]) nT
      have hT9 := upd_same (H := H8) (a := T) (o := .tup [.int (i : Nat), .ref c])
      have k9 := k8.same sT
      clear k8
      generalize upd H8 T (.tup [.int (i : Nat), .ref c]) = H9 at hT9 k9
      refine ⟨T, _, rfl, SqT.of hT9, rfl, _, _, rfl, _, _, rfl, rfl, ?_⟩
      have hc9 := k9.sm _ _ (s1 _ _ hc)
      refine ⟨.ref c, rfl, 2, rfl, c, _, rfl, hc9, fun U H10 s10 hU => ⟨U, rfl, ⟨_, SqT.of hU⟩, ?_⟩⟩
      have eU : cutV [V.int t.one, V.int t.other, V.str (kindS t.foe)] none (some 2) = [V.int t.one, V.int t.other] := cut_take (xs := [V.int t.one, V.int t.other, V.str (kindS t.foe)]) (k := 2) (by simp)
      rw [eU] at hU
      have k10 := k9.same s10
      refine for_tup (xs := [V.int t.one, V.int t.other]) (fun j σ' H' => ∃ (y4 y9 y10 : Option V) (S' : List Dt), σ' = [some (.ref wa), some (.ref o), some (.ref A1), some (.ref C), y4, some (.ref P0), some (.ref D0), some (.int (i : Nat)), some (.ref c), y9, y10, none] ∧ Lk3 lab n ts bs L C P0 D0 H1 S' H' ∧ H' U = some (.tup [V.int t.one, V.int t.other]) ∧ (∀ x ∈ S, x ∈ S') ∧ (1 ≤ j → ((i : Int), t.one) ∈ S') ∧ (2 ≤ j → ((i : Int), t.other) ∈ S')) ⟨_, _, _, S, rfl, k10, hU, fun _ z => z, fun z => (by omega), fun z => (by omega)⟩ (fun j σ' H' _ h => by
        obtain ⟨_, _, _, _, _, _, h, _⟩ := h
        exact SqT.of h) ?_ ?_
      · clear k9 k10 hT9
        rintro j x σ' H11 ex ⟨y4, y9, y10, S', rfl, k11, hU11, sS, j1, j2⟩
        obtain ⟨pl, rfl, hpl, hjs⟩ : ∃ pl : Int, x = .int pl ∧ ((i : Int), pl) ∈ bs.map (fun b : St2 => b.1) ∧ ((j = 0 ∧ pl = t.one) ∨ (j = 1 ∧ pl = t.other)) := by
          match j, ex with
          | 0, ex => exact ⟨t.one, (Option.some.inj ex).symm, ke1, .inl ⟨rfl, rfl⟩⟩
          | 1, ex => exact ⟨t.other, (Option.some.inj ex).symm, ke2, .inr ⟨rfl, rfl⟩⟩
          | j + 2, ex => simp at ex
        have prg := ((pK _).mpr hpl).rng od
        rw [lr] at prg
        have prg : 0 ≤ pl ∧ pl < (n : Int) := prg
        have fin : ∀ {H' : Hp}, Lk3 lab n ts bs L C P0 D0 H1 (S' ++ [((i : Int), pl)]) H' → H' U = some (.tup [V.int t.one, V.int t.other]) → ∀ y4 y9 y10 : Option V, ∃ (z4 z9 z10 : Option V) (S'' : List Dt), [some (.ref wa), some (.ref o), some (.ref A1), some (.ref C), y4, some (.ref P0), some (.ref D0), some (.int (i : Nat)), some (.ref c), y9, y10, none] = [some (.ref wa), some (.ref o), some (.ref A1), some (.ref C), z4, some (.ref P0), some (.ref D0), some (.int (i : Nat)), some (.ref c), z9, z10, none] ∧ Lk3 lab n ts bs L C P0 D0 H1 S'' H' ∧ H' U = some (.tup [V.int t.one, V.int t.other]) ∧ (∀ x ∈ S, x ∈ S'') ∧ (1 ≤ j + 1 → ((i : Int), t.one) ∈ S'') ∧ (2 ≤ j + 1 → ((i : Int), t.other) ∈ S'') := fun k h y4 y9 y10 => by
          refine ⟨y4, y9, y10, _, rfl, k, h, fun x hx => List.mem_append_left _ (sS x hx), fun _ => ?_, fun z => ?_⟩
          · rcases hjs with ⟨a, b⟩ | ⟨a, b⟩
            · exact List.mem_append_right _ (List.mem_singleton.mpr (by rw [b]))
            · exact List.mem_append_left _ (j1 (by omega))
          · rcases hjs with ⟨a, b⟩ | ⟨a, b⟩
            · omega
            · exact List.mem_append_right _ (List.mem_singleton.mpr (by rw [b]))
        refine ⟨.int (i : Nat), rfl, .int pl, rfl, by show 2 ≤ sizeLine; decide, fun q1 nq1 => ?_⟩
        have s12 := same_new (o := .tup [.int (i : Nat), .int pl]) nq1
        have hq1 := upd_same (H := H11) (a := q1) (o := .tup [.int (i : Nat), .int pl])
        have k12 := k11.same s12
        have hU12 := s12 _ _ hU11
        clear k11 hU11
        generalize upd H11 q1 (.tup [.int (i : Nat), .int pl]) = H12 at hq1 k12 hU12
        refine ⟨.ref P0, rfl, P0, _, rfl, DGet.t (k := [Sum.inl (i : Int), Sum.inl pl]) k12.hP hq1, _, rfl, ?_⟩
        rw [kvP_val (q := ((i : Int), pl))]
        by_cases h : ((i : Int), pl) ∈ (facesG bs S').2
        · rw [if_pos h]
          exact fin (k12.old hpl h) hU12 _ _ _
        · rw [if_neg h]
          have lg := lrg pl prg.1 prg.2
          have hA12 := k12.sm _ _ hA1
          have eG : facesG bs (S' ++ [((i : Int), pl)]) = ((facesG bs S').1 ++ [cycB bs ((i : Int), pl)], (cycB bs ((i : Int), pl)).foldl addP (facesG bs S').2) := by
            rw [facesG_snoc]
            unfold faceStep
            rw [if_neg h]
          have sub' : ∀ x ∈ S' ++ [((i : Int), pl)], x ∈ bs.map (fun b : St2 => b.1) := fun x hx => by
            rcases List.mem_append.mp hx with z | z
            · exact k12.sub x z
            · rw [List.mem_singleton.mp z]; exact hpl
          have fcE : ∀ x, ((fcC lab (facesG bs (S' ++ [((i : Int), pl)])).1 x : Nat) : Int) = ((fcC lab (facesG bs S').1 x : Nat) : Int) + if x = lab pl then 1 else 0 := fun x => by
            rw [eG]
            show ((fcC lab ((facesG bs S').1 ++ [cycB bs ((i : Int), pl)]) x : Nat) : Int) = _
            have hd : hlC lab (cycB bs ((i : Int), pl)) = some (lab pl) := by
              have h0 := (rnd.per hpl).2.2.2.2.hd
              cases ec : cycB bs ((i : Int), pl) with
              | nil => rw [ec] at h0; cases h0
              | cons d ds =>
                rw [ec] at h0
                have : d = ((i : Int), pl) := Option.some.inj h0
                rw [this]
                rfl
            unfold fcC
            rw [List.countP_append, List.countP_singleton, hd]
            by_cases z : x = lab pl
            · rw [if_pos z, if_pos (decide_eq_true (by rw [z]))]; rfl
            · rw [if_neg z, if_neg (fun y => z (Option.some.inj (of_decide_eq_true y)).symm)]; rfl
          refine ⟨.ref C, rfl, .ref A1, rfl, .int pl, rfl, A1, _, pl, .int (lab pl), rfl, rfl, SqL.of hA12, lf_at _ prg.1 prg.2, C, _, lab pl, _, rfl, rfl, SqL.of k12.hC, lf_at _ lg.1 lg.2, _, _, rfl, rfl, ?_⟩
          refine ⟨.ref C, rfl, .ref A1, rfl, .int pl, rfl, A1, _, pl, .int (lab pl), rfl, rfl, SqL.of hA12, lf_at _ prg.1 prg.2, C, _, lab pl, (lab pl).toNat, rfl, rfl, k12.hC, by rw [lf_len]; exact ixN_of lg.1 lg.2, ?_⟩
          rw [lf_set _ lg.1 lg.2]
          have eL : lf (fun x => if x = lab pl then (((plC lab n (lab pl) : Nat) : Int) - ((tcT lab ts (lab pl) : Nat) : Int) + ((fcC lab (facesG bs S').1 (lab pl) : Nat) : Int)) + 1 else ((plC lab n x : Nat) : Int) - ((tcT lab ts x : Nat) : Int) + ((fcC lab (facesG bs S').1 x : Nat) : Int)) n = lf (fun c => ((plC lab n c : Nat) : Int) - (tcT lab ts c : Nat) + (fcC lab (facesG bs (S' ++ [((i : Int), pl)])).1 c : Nat)) n := lf_congr fun x => by
            rw [fcE]
            by_cases z : x = lab pl
            · rw [if_pos z, if_pos z, z]; omega
            · rw [if_neg z, if_neg z]; omega
          have hC13 := (upd_same (H := H12) (a := C) (o := .lst (lf (fun x => if x = lab pl then (((plC lab n (lab pl) : Nat) : Int) - ((tcT lab ts (lab pl) : Nat) : Int) + ((fcC lab (facesG bs S').1 (lab pl) : Nat) : Int)) + 1 else ((plC lab n x : Nat) : Int) - ((tcT lab ts x : Nat) : Int) + ((fcC lab (facesG bs S').1 x : Nat) : Int)) n))).trans (by rw [eL])
          have hP13 : (upd H12 C (.lst (lf (fun x => if x = lab pl then (((plC lab n (lab pl) : Nat) : Int) - ((tcT lab ts (lab pl) : Nat) : Int) + ((fcC lab (facesG bs S').1 (lab pl) : Nat) : Int)) + 1 else ((plC lab n x : Nat) : Int) - ((tcT lab ts x : Nat) : Int) + ((fcC lab (facesG bs S').1 x : Nat) : Int)) n))) P0 = some (.dT (kvP (facesG bs S').2)) := by rw [upd_ne CP.symm]; exact k12.hP
          have hD13 : (upd H12 C (.lst (lf (fun x => if x = lab pl then (((plC lab n (lab pl) : Nat) : Int) - ((tcT lab ts (lab pl) : Nat) : Int) + ((fcC lab (facesG bs S').1 (lab pl) : Nat) : Int)) + 1 else ((plC lab n x : Nat) : Int) - ((tcT lab ts x : Nat) : Int) + ((fcC lab (facesG bs S').1 x : Nat) : Int)) n))) D0 = some (.dK (kvB L)) := by rw [upd_ne CD.symm]; exact k12.hD
          have hU13 := tk_lst (ys := lf (fun x => if x = lab pl then (((plC lab n (lab pl) : Nat) : Int) - ((tcT lab ts (lab pl) : Nat) : Int) + ((fcC lab (facesG bs S').1 (lab pl) : Nat) : Int)) + 1 else ((plC lab n x : Nat) : Int) - ((tcT lab ts x : Nat) : Int) + ((fcC lab (facesG bs S').1 x : Nat) : Int)) n) k12.hC _ _ hU12
          have s13 : Same H1 (upd H12 C (.lst (lf (fun x => if x = lab pl then (((plC lab n (lab pl) : Nat) : Int) - ((tcT lab ts (lab pl) : Nat) : Int) + ((fcC lab (facesG bs S').1 (lab pl) : Nat) : Int)) + 1 else ((plC lab n x : Nat) : Int) - ((tcT lab ts x : Nat) : Int) + ((fcC lab (facesG bs S').1 x : Nat) : Int)) n))) := Same.mut k12.sm nC1
          generalize upd H12 C (.lst (lf (fun x => if x = lab pl then (((plC lab n (lab pl) : Nat) : Int) - ((tcT lab ts (lab pl) : Nat) : Int) + ((fcC lab (facesG bs S').1 (lab pl) : Nat) : Int)) + 1 else ((plC lab n x : Nat) : Int) - ((tcT lab ts x : Nat) : Int) + ((fcC lab (facesG bs S').1 x : Nat) : Int)) n)) = H13 at hC13 hP13 hD13 hU13 s13
          obtain ⟨nd0, in0, wh0⟩ := And.intro k12.nd (And.intro k12.in' k12.wh)
          clear k12 hU12 hA12 hq1
          refine ⟨.int (i : Nat), rfl, .int pl, rfl, by show 2 ≤ sizeLine; decide, fun q2 nq2 => ?_⟩
          have s14 := same_new (o := .tup [.int (i : Nat), .int pl]) nq2
          have hq2 := upd_same (H := H13) (a := q2) (o := .tup [.int (i : Nat), .int pl])
          have hC14 := s14 _ _ hC13
          have hP14 := s14 _ _ hP13
          have hD14 := s14 _ _ hD13
          have hU14 := s14 _ _ hU13
          have sm14 := s13.trans s14
          clear hC13 hP13 hD13 hU13 s13
          generalize upd H13 q2 (.tup [.int (i : Nat), .int pl]) = H14 at hq2 hC14 hP14 hD14 hU14 sm14
          refine ⟨.ref wa, rfl, wa, _, 1, .ref wb, rfl, rfl, SqT.of (sm14 _ _ (s1 _ _ hwa)), rfl, wb, ws0, rfl, .inr (SqT.of (sm14 _ _ (s1 _ _ hwb))), _, _, rfl, rfl, .inl ⟨by decide, by decide⟩, _, rfl, by omega, by omega, ?_⟩
          have due := rnd.due hpl wh0 h (N := (2 * (ws0.length : Int)).toNat) (by omega)
          refine for_range (lo := 0) (n := (2 * (ws0.length : Int)).toNat) (fun j' σ' H' => ∃ (y10 : Option V) (t0 : Addr), σ' = [some (.ref wa), some (.ref o), some (.ref A1), some (.ref C), some (.int pl), some (.ref P0), some (.ref D0), some (.int (i : Nat)), some (.ref c), some (.ref t0), y10, none] ∧ H' C = some (.lst (lf (fun c => ((plC lab n c : Nat) : Int) - (tcT lab ts c : Nat) + (fcC lab (facesG bs (S' ++ [((i : Int), pl)])).1 c : Nat)) n)) ∧ H' P0 = some (.dT (kvP (dueW bs j' ((facesG bs S').2, [], ((i : Int), pl))).1)) ∧ (dueW bs j' ((facesG bs S').2, [], ((i : Int), pl))).1.Nodup ∧ (∀ q ∈ (dueW bs j' ((facesG bs S').2, [], ((i : Int), pl))).1, q ∈ bs.map (fun b : St2 => b.1)) ∧ H' t0 = some (.tup [.int (dueW bs j' ((facesG bs S').2, [], ((i : Int), pl))).2.2.1, .int (dueW bs j' ((facesG bs S').2, [], ((i : Int), pl))).2.2.2]) ∧ (dueW bs j' ((facesG bs S').2, [], ((i : Int), pl))).2.2 ∈ bs.map (fun b : St2 => b.1) ∧ H' D0 = some (.dK (kvB L)) ∧ H' U = some (.tup [V.int t.one, V.int t.other]) ∧ Same H1 H') ⟨_, q2, rfl, hC14, hP14, nd0, in0, hq2, hpl, hD14, hU14, sm14⟩ ?_ ?_
          · clear hq2 hC14 hP14 nd0 in0 hD14 hU14 sm14 due
            rintro j' σ' H15 hj' ⟨y10', t0, rfl, hC15, hP15, nd15, in15, ht15, hx15, hD15, hU15, s15⟩
            have eW := dueW_succ bs j' ((facesG bs S').2, [], ((i : Int), pl))
            generalize dueW bs j' ((facesG bs S').2, [], ((i : Int), pl)) = W at eW hP15 nd15 in15 ht15 hx15
            refine ⟨.ref t0, rfl, .ref P0, rfl, P0, _, rfl, DGet.t (k := [Sum.inl W.2.2.1, Sum.inl W.2.2.2]) hP15 ht15, _, rfl, ?_⟩
            rw [kvP_val]
            by_cases hk : W.2.2 ∈ W.1
            · rw [if_pos hk]
              have eW2 : dueW bs (j' + 1) ((facesG bs S').2, [], ((i : Int), pl)) = W := by rw [eW]; unfold dueStep; rw [if_pos hk]
              exact ⟨_, t0, rfl, hC15, by rw [eW2]; exact hP15, by rw [eW2]; exact nd15, by rw [eW2]; exact in15, by rw [eW2]; exact ht15, by rw [eW2]; exact hx15, hD15, hU15, s15⟩
            · rw [if_neg hk]
              have eW2 : dueW bs (j' + 1) ((facesG bs S').2, [], ((i : Int), pl)) = (addP W.1 W.2.2, W.2.1 ++ [W.2.2], nxB bs W.2.2) := by rw [eW]; unfold dueStep; rw [if_neg hk]
              have lP : W.1.length ≤ 1000 := by
                have := sub_lenG nd15 in15
                rw [List.length_map] at this
                omega
              have hlt : (kvP W.1).length < sizeLine := by
                unfold kvP
                rw [List.length_map]
                exact Nat.lt_of_succ_le (Evl.sz_of (by omega))
              refine ⟨.ref P0, rfl, .ref t0, rfl, P0, _, rfl, DPut.t (k := [Sum.inl W.2.2.1, Sum.inl W.2.2.2]) hP15 ht15 hlt, ?_⟩
              rw [kvP_put]
              have tkP := tk_dT (kvs' := kvP (addP W.1 W.2.2)) hP15
              have hC16 : (upd H15 P0 (.dT (kvP (addP W.1 W.2.2)))) C = some (.lst (lf (fun c => ((plC lab n c : Nat) : Int) - (tcT lab ts c : Nat) + (fcC lab (facesG bs (S' ++ [((i : Int), pl)])).1 c : Nat)) n)) := by rw [upd_ne CP]; exact hC15
              have hD16 : (upd H15 P0 (.dT (kvP (addP W.1 W.2.2)))) D0 = some (.dK (kvB L)) := by rw [upd_ne PD.symm]; exact hD15
              have hP16 : (upd H15 P0 (.dT (kvP (addP W.1 W.2.2)))) P0 = some (.dT (kvP (addP W.1 W.2.2))) := upd_same
              have ht16 := tkP _ _ ht15
              have hU16 := tkP _ _ hU15
              have s16 : Same H1 (upd H15 P0 (.dT (kvP (addP W.1 W.2.2)))) := Same.mut s15 nP1
              generalize upd H15 P0 (.dT (kvP (addP W.1 W.2.2))) = H16 at hC16 hD16 hP16 ht16 hU16 s16
              obtain ⟨k, p, row, i', hk1, er, ei, ex1, en1⟩ := step hx15
              have ht17 : H16 t0 = some (.tup [.int (k : Nat), .int (othE es k p)]) := by
                rw [ht16, ex1]
              have sH := s1.trans s16
              refine ⟨.ref wa, rfl, .ref o, rfl, .ref t0, rfl, .ref wa, n, ts, o, t0, us, rs, es, k, p, row, i', rfl, hW.tk (Same.tk sH), sH _ _ ho, Paired.mono (fun _ _ x => x.tk (Same.tk sH)) hp, od, tw, by omega, hk1, er, ei, ht17, fun r H17 s17 hr => ?_⟩
              refine ⟨_, r, rfl, s17 _ _ hC16, by rw [eW2]; exact s17 _ _ hP16, by rw [eW2]; exact addP_nd nd15, fun x hx => ?_, ?_, ?_, s17 _ _ hD16, s17 _ _ hU16, s16.trans s17⟩
              · rw [eW2] at hx
                rcases addP_mem.mp hx with z | z
                · exact in15 x z
                · rw [z]; exact hx15
              · rw [eW2]
                show H17 r = some (.tup [.int (nxB bs W.2.2).1, .int (nxB bs W.2.2).2])
                rw [en1]
                exact hr
              · rw [eW2]
                exact rnd.key hx15
          · rintro σ' H15 ⟨y10', t0, rfl, hC15, hP15, nd15, in15, _, _, hD15, hU15, s15⟩
            rw [due] at hP15 nd15 in15
            refine fin ⟨hC15, by rw [eG]; exact hP15, by rw [eG]; exact nd15, by rw [eG]; exact in15, by rw [eG]; exact rnd.whole hpl wh0, hD15, sub', s15⟩ hU15 _ _ _
      · rintro σ' H11 ⟨y4, y9, y10, S', rfl, k11, hU11, sS, j1, j2⟩
        refine ⟨_, _, _, _, _, S', rfl, k11, fun k t' hk et' => ?_⟩
        by_cases ki : k < i
        · have := c8 k t' ki et'
          exact ⟨sS _ this.1, sS _ this.2⟩
        · have : k = i := by omega
          subst this
          have : t = t' := Option.some.inj (et.symm.trans et')
          subst this
          exact ⟨j1 (by simp), j2 (by simp)⟩
    · rintro σ' H8 ⟨y4, y7, y8, y9, y10, S, rfl, k8, c8⟩
      rw [lw] at c8
      have full : ∀ x, x ∈ S ↔ x ∈ bs.map (fun b : St2 => b.1) := fun x => ⟨k8.sub x, fun hx => by
        obtain ⟨k, t, et, e⟩ := key2 x hx
        have := c8 k t (List.getElem?_eq_some_iff.mp et).1 et
        rcases e with e | e <;> rw [e]
        · exact this.1
        · exact this.2⟩
      obtain ⟨hC9, hD9, s9⟩ := And.intro k8.hC (And.intro k8.hD k8.sm)
      clear k8 k0
      have qq := fun b H' s => q b S H' s full
      generalize hg : (fun c => ((plC lab n c : Nat) : Int) - (tcT lab ts c : Nat) + (fcC lab (facesG bs S).1 c : Nat)) = g at hC9
      have gE : ∀ c, g c = ((plC lab n c : Nat) : Int) - (tcT lab ts c : Nat) + (fcC lab (facesG bs S).1 c : Nat) := fun c => by rw [← hg]
      have nD2 : H D0 = none := s1.free nD1
      have CD' : C ≠ D0 := CD
      refine ⟨D0, _, hD9, trivial, fun od' => ?_⟩
      refine ⟨.ref D0, rfl, D0, od', rfl, .inl ⟨_, upd_same, fun Z nZ => ?_⟩⟩
      have hDf : (upd H8 D0 (.frz od' (.dK (kvB L)))) D0 = some (.frz od' (.dK (kvB L))) := upd_same
      have hZD : Z ≠ D0 := fun z => by rw [z, hDf] at nZ; cases nZ
      have nZ1 : H8 Z = none := by rw [upd_ne hZD] at nZ; exact nZ
      have hCf : (upd H8 D0 (.frz od' (.dK (kvB L)))) C = some (.lst (lf g n)) := by rw [upd_ne CD']; exact hC9
      have sH8 := s1.trans s9
      have sZ : Same H (upd (upd H8 D0 (.frz od' (.dK (kvB L)))) Z (.lst [])) := (Same.mut sH8 nD2).trans (same_new nZ)
      have nZ0 : H Z = none := sH8.free nZ1
      have CZ : C ≠ Z := fun z => by rw [z, nZ1] at hC9; cases hC9
      refine lc_it (walk_keys (kvs := kvB L)) (fun i H' => H' Z = some (.lst (((L.take i).filter fun k => decide (¬ g k = 2)).map V.int)) ∧ H' D0 = some (.frz od' (.dK (kvB L))) ∧ H' C = some (.lst (lf g n)) ∧ Same H H') ⟨upd_same, by rw [upd_ne hZD.symm]; exact hDf, by rw [upd_ne CZ]; exact hCf, sZ⟩ (fun i H' _ h => h.2.1) ?_ ?_
      · rintro i x H2 H3 hi ⟨hZ, hDz, hCz, s3⟩ ⟨rfl, k, v, ek, rfl⟩
        obtain ⟨k0, ek0, e⟩ : ∃ k0, L[i]? = some k0 ∧ ((Sum.inl k0 : Key), V.bl true) = (k, v) := by
          unfold kvB at ek
          rw [List.getElem?_map] at ek
          exact Option.map_eq_some_iff.mp ek
        cases e
        have hmem := List.mem_of_getElem? ek0
        obtain ⟨t, ht, el⟩ := (mL' k0).mp hmem
        have okt := ok.ok t ht
        have lg := lrg t.one okt.1 okt.2.1
        rw [el] at lg
        have et : ((L.take (i + 1)).filter fun k => decide (¬ g k = 2)) = ((L.take i).filter fun k => decide (¬ g k = 2)) ++ if g k0 = 2 then [] else [k0] := by
          rw [List.take_add_one, ek0, List.filter_append]
          congr 1
          by_cases e2 : g k0 = 2
          · rw [if_pos e2]; simp [e2]
          · rw [if_neg e2]; simp [e2]
        refine ⟨rfl, .ref C, rfl, .int k0, rfl, C, _, k0, .int (g k0), rfl, rfl, SqL.of hCz, lf_at _ lg.1 lg.2, rfl, _, rfl, ?_⟩
        rw [dec_intF]
        by_cases e2 : g k0 = 2
        · rw [decide_eq_true e2]
          show _ ∧ _ ∧ _ ∧ _
          rw [et, if_pos e2, List.append_nil]
          exact ⟨hZ, hDz, hCz, s3⟩
        · rw [decide_eq_false e2]
          refine ⟨.int k0, rfl, _, hZ, ?_, ?_⟩
          · have a1 := List.length_filter_le (fun k => decide (¬ g k = 2)) (L.take i)
            have a2 := List.length_take_le' i L
            rw [List.length_map]
            exact small1000 (by omega)
          · rw [et, if_neg e2, List.map_append]
            exact ⟨upd_same, by rw [upd_ne hZD.symm]; exact hDz, by rw [upd_ne CZ]; exact hCz, Same.mut s3 nZ0⟩
      · rintro H2 ⟨hZ, hDz, hCz, s3⟩
        refine ⟨hDz, ?_⟩
        have lkB : (kvB L).length = L.length := by unfold kvB; rw [List.length_map]
        rw [lkB, List.take_length] at hZ
        have s4 : Same H (upd H2 D0 (.dK (kvB L))) := Same.mut s3 nD2
        have hZ4 : (upd H2 D0 (.dK (kvB L))) Z = some (.lst ((L.filter fun k => decide (¬ g k = 2)).map V.int)) := by rw [upd_ne hZD]; exact hZ
        generalize upd H2 D0 (.dK (kvB L)) = H3 at s4 hZ4
        refine ⟨Nat.zero_le _, fun E nE => ⟨Z, E, _, rfl, rfl, SqL.of (same_new nE _ _ hZ4), SqL.of upd_same, ?_⟩⟩
        have sE := same_new (o := .lst []) nE
        refine qq _ _ (s4.trans sE) ?_
        rw [List.isEmpty_iff, List.map_eq_nil_iff, List.filter_eq_nil_iff]
        constructor
        · intro hall t ht
          have := hall (lab t.one) ((mL' _).mpr ⟨t, ht, rfl⟩)
          have g2 : g (lab t.one) = 2 := Classical.byContradiction fun z => this (decide_eq_true z)
          rw [gE] at g2
          omega
        · intro hf x hx z
          obtain ⟨t, ht, el⟩ := (mL' x).mp hx
          have := hf t ht
          rw [el] at this
          refine of_decide_eq_true z ?_
          rw [gE]
          omega
end
/-! ### k53: right -/
theorem rounds_cls {ts : List Tie} {n : Nat} (ok : ∀ t ∈ ts, TieOk n t) (x y : Int) (hx : 0 ≤ x ∧ x < (n : Int)) (hy : 0 ≤ y ∧ y < (n : Int)) : rounds ts n x = rounds ts n y ↔ Rch ts x y := by
  constructor
  · intro e
    have h := rounds_rch ts n x
    rw [e] at h
    exact h.trans (rounds_rch ts n y).symm
  · intro h
    obtain ⟨m, lm, hm, rm⟩ := has_leader ok hx
    rw [rounds_least ok lm hm rm, rounds_least ok lm hm (rm.trans h)]
def AnsF (ts : List Tie) (n : Nat) (es : List (Int × Int)) (rs : List (List Int)) (b : Bool) : Prop := ∀ S, (∀ x, x ∈ S ↔ x ∈ (stepsB es rs rs.length).map (·.1)) → (b = true ↔ FlatL (rounds ts n) n ts (facesG (stepsB es rs rs.length) S).1)
def spRight53 : Sp := fun vs H Q _ => ∃ (wv : V) (n : Nat) (ts : List Tie) (o : Addr) (us : List V) (rs : List (List Int)) (es : List (Int × Int)) (b : Bool), vs = [wv, .ref o, .bl b] ∧ WebAt H wv n ts ∧ WebOk n ts ∧ H o = some (.tup us) ∧ Paired (IntsV H) us rs ∧ Ord rs es ∧ TwE ts es ∧ rs.length = n ∧ es.length ≤ 100 ∧ AnsF ts n es rs b ∧
  ∀ H', Same H H' → Q (.bl true) H'
theorem ans_all {ts : List Tie} {n : Nat} {es : List (Int × Int)} {rs : List (List Int)} {b : Bool} (ok : WebOk n ts) (od : Ord rs es) (lr : rs.length = n) (a : AnsF ts n es rs b) {S : List Dt} (pm : S.Perm ((stepsB es rs rs.length).map (·.1))) : (partsTo ts n n).all (flatP ts (facesG (stepsB es rs rs.length) S).1) = b := by
  have hS : ∀ x, x ∈ S ↔ x ∈ (stepsB es rs rs.length).map (·.1) := fun x => pm.mem_iff
  have dec := facesG_decE od hS
  have := flat_iff (lab := rounds ts n) ok.ok (rounds_cls ok.ok) (fs := (facesG (stepsB es rs rs.length) S).1) fun f hf x hx => by
    have := ((dec.all x).mpr ⟨f, hf, hx⟩).rng od
    rw [lr] at this
    exact this
  rw [Bool.eq_iff_iff, this]
  exact (a S hS).symm
section
variable {P : Program} {w : World} {K : PySem.W.Frag} {mg : Str → Option Value} {base : Heap}
theorem ok_l_right {f : Addr} {fd : FuncData} (F : Fun K "_law_right" "_law_right" s_l_right f fd) (M : Free mg) (D_are_flat : Df P w K mg base 4 "are_flat" ["web", "orders"] spAreFlat) : FnOk P w K mg base CX0 5 f fd ["_law_web_here", "_law_orders", "_law_due"] spRight53 := by
  obtain ⟨f_are_flat, fd_are_flat, G_are_flat, g_are_flat, k_are_flat, b_are_flat⟩ := D_are_flat
  refine F.ok sc_l_right (fun vs H Q E h => ?_) (fun cdv A outer s H vs Q E hr h => ?_)
  · obtain ⟨wv, n, ts, o, us, rs, es, b, rfl, _⟩ := h
    rfl
  · obtain ⟨wv, n, ts, o, us, rs, es, b, rfl, hW, ok, ho, hp, od, tw, lr, le, ans, q⟩ := h
    refine ⟨_, (pss_cons (ps_set (i := 3) sc_l_right.nd rfl (.inl rfl) (pe_call G_are_flat (hr.mono (by decide)) (by rfl) g_are_flat k_are_flat b_are_flat .nil pass0 (pa_cons (pv 0) (pa_cons (pv 1) pa_nil))))
      (pss_one (ps_ret (pe_and (pe_callB call_isi (by rfl) M.isinstance (by decide +kernel) (pa_cons (pv 3) (pa_cons (pe_bltn (v := .ty "bool") (by rfl) M.bool (by decide +kernel) rfl) pa_nil))) (pe_one (pe_cmpR op_eq (pv 3) (pv 2) (nomark _))))))), ?_⟩
    have hi := ok.hi
    refine ⟨wv, rfl, .ref o, rfl, wv, n, ts, o, us, rs, es, rfl, hW, ok, ho, hp, od, tw, by omega, le, fun S H1 s1 pm => ?_⟩
    rw [ans_all ok od lr ans pm]
    obtain ⟨t3, h3, e3⟩ := kn_bool (K := K) (H := H1) (v := .bl b) trivial
    have e3 : PySem.W.kitOne K t3 (.type "bool") = some true := e3
    refine ⟨.bl b, rfl, .bl b, _, t3, _, _, rfl, .ty "bool", h3, e3, _, rfl, .bl b, rfl, .bl b, rfl, rfl, ?_⟩
    rw [show decide (V.bl b = V.bl b) = true from decide_eq_true rfl]
    exact q H1 s1
end
/-! ### k53: orders mingled into new rows -/
def spMingled : Sp := fun vs H Q _ => ∃ (H0 : Hp) (d T O : Addr) (us : List V) (es : List (Int × Int)) (A : List Addr) (rs : List (List Int)), vs = [.ref d, .ref O] ∧ Grw H0 d T O H us es A rs ∧ Ord rs es ∧ rs.length ≤ 100 ∧ es.length ≤ 200 ∧
  ∀ O' A' rs' H', Ord rs' es → rs'.length = rs.length → Grw H0 d T O' H' us es A' rs' → Tk H H' → Q (.ref O') H'
theorem eras_map (f : Int → V) : ∀ (xs : List Int) (k : Nat), (xs.map f).eraseIdx k = (xs.eraseIdx k).map f
  | [], _ => rfl
  | x :: xs, 0 => rfl
  | x :: xs, k + 1 => by
    show f x :: (xs.map f).eraseIdx k = f x :: (xs.eraseIdx k).map f
    rw [eras_map f xs k]
theorem eras_perm : ∀ {xs : List Int} {k : Nat} {y : Int}, xs[k]? = some y → (y :: xs.eraseIdx k).Perm xs
  | x :: xs, 0, y, h => by
    obtain rfl := Option.some.inj h
    exact List.Perm.refl _
  | x :: xs, k + 1, y, h => by
    have h : xs[k]? = some y := h
    exact (List.Perm.swap x y _).trans ((eras_perm h).cons x)
section
variable {P : Program} {w : World} {K : PySem.W.Frag} {mg : Str → Option Value} {base : Heap}
set_option maxHeartbeats 4000000 in
theorem ok_l_mingled {f : Addr} {fd : FuncData} (F : Fun K "_law_mingled" "_law_mingled" s_l_mingled f fd) (M : Free mg) (D_l_take : Df P w K mg base 2 "_law_take" ["_law_deck_here", "_law_most"] spTake) : FnOk P w K mg base CX0 3 f fd ["_law_deck_here", "_law_orders"] spMingled := by
  obtain ⟨f_l_take, fd_l_take, G_l_take, g_l_take, k_l_take, b_l_take⟩ := D_l_take
  refine F.ok sc_l_mingled (fun vs H Q E h => ?_) (fun cdv A outer s H vs Q E hr h => ?_)
  · obtain ⟨H0, d, T, O, us, es, A, rs, rfl, _⟩ := h
    rfl
  · obtain ⟨H0, d, T, O, us, es, A, rs, rfl, g, od, lr, le, q⟩ := h
    refine ⟨_, (pss_cons (ps_set (i := 2) sc_l_mingled.nd rfl (.inl rfl) (pe_lst pa_nil))
      (pss_cons (ps_for PassesOwn.never rfl (pi_list (pv 1)) (pg_name (i := 3) sc_l_mingled.nd rfl (.inl rfl))
        (pss_cons (ps_set (i := 4) sc_l_mingled.nd rfl (.inl rfl) (pe_callTy call_list_of (by rfl) M.list (by decide +kernel) (pa_cons (pv 3) pa_nil)))
        (pss_cons (ps_set (i := 5) sc_l_mingled.nd rfl (.inl rfl) (pe_lst pa_nil))
        (pss_cons (ps_while PassesOwn.never (pt_cmpR (op_neE hr.units0) (pv 4) (pe_lst pa_nil) (nomark _))
          (pss_one (ps_expr (pe_bm PySem.F.plainAttrs_list PySem.F.slot_list_append PySem.F.type_list_append mt_append (pv 5) (pa_cons (pe_bm PySem.F.plainAttrs_list PySem.F.slot_list_pop PySem.F.type_list_pop mt_popAt (pv 4) (pa_cons (pe_call G_l_take (hr.mono (by decide)) (by rfl) g_l_take k_l_take b_l_take .nil pass0 (pa_cons (pv 0) (pa_cons (pe_callB call_len_seq (by rfl) M.len PySem.boot_len (pa_cons (pv 4) pa_nil)) pa_nil))) pa_nil)) pa_nil)))))
        (pss_one (ps_expr (pe_bm PySem.F.plainAttrs_list PySem.F.slot_list_append PySem.F.type_list_append mt_append (pv 2) (pa_cons (pv 5) pa_nil))))))))
      (pss_one (ps_ret (pv 2))))), ?_⟩
    have lA := g.rw'.len
    refine ⟨Nat.zero_le _, fun L nL => ?_⟩
    have sL := same_new (o := .lst []) nL
    have hL1 : (upd H L (.lst [])) L = some (.lst (([] : List Addr).map V.ref)) := upd_same
    have g1 := g.same sL
    have Ld : L ≠ d := g.dk.ned nL
    have K1 : Kp d d H (upd H L (.lst [])) := Same.kp sL
    have tk1 : Tk H (upd H L (.lst [])) := Same.tk sL
    have nL0 := g.kp.free nL Ld Ld
    have LA : ∀ a ∈ A, a ≠ L := fun a ha z => by
      obtain ⟨j, ej⟩ := List.getElem?_of_mem ha
      obtain ⟨_, _, e2⟩ := g.rw'.each _ _ ej
      rw [z, nL] at e2
      cases e2
    have LT : T ≠ L := ne_of_none g.hT nL
    have LO : O ≠ L := ne_of_none g.hO nL
    generalize upd H L (.lst []) = H1 at sL hL1 g1 K1 tk1
    refine ⟨.ref O, rfl, O, rfl, ⟨_, SqL.of g1.hO⟩, ?_⟩
    refine for_list (xs := A.map V.ref) (fun i σ' H' => ∃ (y3 y4 y5 : Option V) (A' : List Addr) (rs' : List (List Int)), σ' = [some (.ref d), some (.ref O), some (.ref L), y3, y4, y5] ∧ H' L = some (.lst (A'.map V.ref)) ∧ Rw H' A' rs' ∧ (∀ a ∈ A', a ≠ T ∧ a ≠ L ∧ a ≠ d ∧ H0 a = none) ∧ rs'.length = i ∧ (∀ (j : Nat) (row' : List Int), rs'[j]? = some row' → ∃ row, rs[j]? = some row ∧ row'.Perm row) ∧ Grw H0 d T O H' us es A rs ∧ Kp d d H H' ∧ Tk H H') ⟨none, none, none, [], [], rfl, hL1, ⟨List.nodup_nil, rfl, fun j a e => by simp at e⟩, fun a ha => (by cases ha), rfl, fun j row' e => by simp at e, g1, K1, tk1⟩ (fun i σ' H' _ h => by
      obtain ⟨_, _, _, _, _, _, _, _, _, _, _, g, _⟩ := h
      exact SqL.of g.hO) ?_ ?_
    · rintro i x σ' H2 ex ⟨y3, y4, y5, A', rs', rfl, hL, hv, aA, li, each, g2, K2, tk2⟩
      have lv := hv.len
      rw [List.getElem?_map] at ex
      obtain ⟨ra, ea, rfl⟩ := Option.map_eq_some_iff.mp ex
      obtain ⟨row, er, hra⟩ := g2.rw'.each _ _ ea
      have hlt := (List.getElem?_eq_some_iff.mp er).1
      have lrow := od.row_len (List.mem_of_getElem? er)
      refine ⟨.ref ra, rfl, ra, _, rfl, .inl (SqL.of hra), fun F nF => ?_⟩
      have sF := same_new (o := .lst (row.map V.int)) nF
      have hF3 := upd_same (H := H2) (a := F) (o := .lst (row.map V.int))
      have Fd : F ≠ d := g2.dk.ned nF
      have nF0 := g2.kp.free nF Fd Fd
      have FA : ∀ a ∈ A, a ≠ F := fun a ha z => by
        obtain ⟨j, ej⟩ := List.getElem?_of_mem ha
        obtain ⟨_, _, e2⟩ := g2.rw'.each _ _ ej
        rw [z, nF] at e2
        cases e2
      have FA' : ∀ a ∈ A', a ≠ F := fun a ha z => by
        obtain ⟨j, ej⟩ := List.getElem?_of_mem ha
        obtain ⟨_, _, e2⟩ := hv.each _ _ ej
        rw [z, nF] at e2
        cases e2
      have FT : T ≠ F := ne_of_none g2.hT nF
      have FO : O ≠ F := ne_of_none g2.hO nF
      have FL : L ≠ F := ne_of_none hL nF
      have nFH : H F = none := K2.free nF Fd Fd
      have g3 := g2.same sF
      have hL3 := sF _ _ hL
      have hv3 := hv.ext fun a _ x e => sF a x e
      have K3 := K2.trans (Same.kp (d := d) (c := d) sF)
      have tk3 := tk2.trans (Same.tk sF)
      generalize upd H2 F (.lst (row.map V.int)) = H3 at sF hF3 g3 hL3 hv3 K3 tk3
      refine ⟨Nat.zero_le _, fun R nR => ?_⟩
      have sR := same_new (o := .lst (([] : List Int).map V.int)) nR
      have Rd : R ≠ d := g3.dk.ned nR
      have nR0 := g3.kp.free nR Rd Rd
      have nRH : H R = none := K3.free nR Rd Rd
      have RA : ∀ a ∈ A, a ≠ R := fun a ha z => by
        obtain ⟨j, ej⟩ := List.getElem?_of_mem ha
        obtain ⟨_, _, e2⟩ := g3.rw'.each _ _ ej
        rw [z, nR] at e2
        cases e2
      have RT : T ≠ R := ne_of_none g3.hT nR
      have RO : O ≠ R := ne_of_none g3.hO nR
      have RL : L ≠ R := ne_of_none hL3 nR
      have RF : F ≠ R := ne_of_none hF3 nR
      have hv4 := hv3.more nR []
      have hF4 := sR _ _ hF3
      have g4 := g3.same sR
      have hL4 := sR _ _ hL3
      have K4 := K3.trans (Same.kp (d := d) (c := d) sR)
      have tk4 := tk3.trans (Same.tk sR)
      have aA4 : ∀ a ∈ A' ++ [R], a ≠ T ∧ a ≠ L ∧ a ≠ d ∧ H0 a = none := fun a ha => by
        rcases List.mem_append.mp ha with z | z
        · exact aA a z
        · rw [List.mem_singleton.mp z]
          exact ⟨RT.symm, RL.symm, Rd, nR0⟩
      have FA4 : ∀ a ∈ A' ++ [R], a ≠ F := fun a ha => by
        rcases List.mem_append.mp ha with z | z
        · exact FA' a z
        · rw [List.mem_singleton.mp z]
          exact RF.symm
      have eR : (A' ++ [R])[A'.length]? = some R := by
        rw [List.getElem?_append_right (Nat.le_refl _), Nat.sub_self]
        rfl
      have hx : upd H3 R (.lst (([] : List Int).map V.int)) = upd H3 R (.lst []) := rfl
      rw [hx] at hv4 hF4 g4 hL4 K4 tk4
      generalize upd H3 R (.lst []) = H4 at hF4 g4 hL4 hv4 K4 tk4
      clear sR sF K3 hL3 hv3 g3 hF3 nR hra hL hv g2 K2 tk2 tk3 hx
      refine ⟨fun m σ' H' => ∃ (left done : List Int), m = left.length ∧ σ' = [some (.ref d), some (.ref O), some (.ref L), some (.ref ra), some (.ref F), some (.ref R)] ∧ H' F = some (.lst (left.map V.int)) ∧ Rw H' (A' ++ [R]) (rs' ++ [done]) ∧ (done ++ left).Perm row ∧ H' L = some (.lst (A'.map V.ref)) ∧ Grw H0 d T O H' us es A rs ∧ Kp d d H H' ∧ Tk H H', ⟨_, row, [], rfl, rfl, hF4, hv4, List.Perm.refl _, hL4, g4, K4, tk4⟩, ?_⟩
      clear hF4 g4 hL4 hv4 K4 tk4
      rintro m σ' H5 ⟨left, done, rfl, rfl, hF, hv, pm, hL, g, K5, tk5⟩
      refine ⟨.ref F, rfl, Nat.zero_le _, fun Z nZ => ⟨F, Z, _, rfl, rfl, SqL.of (same_new nZ _ _ hF), SqL.of upd_same, _, rfl, ?_⟩⟩
      have sZ := same_new (o := .lst []) nZ
      have hF6 := sZ _ _ hF
      have hL6 := sZ _ _ hL
      have hv6 := hv.ext fun a _ x e => sZ a x e
      have g6 := g.same sZ
      have K6 := K5.trans (Same.kp (d := d) (c := d) sZ)
      have tk6 := tk5.trans (Same.tk sZ)
      generalize upd H5 Z (.lst []) = H6 at hF6 hL6 hv6 g6 K6 tk6
      clear hF hL hv g K5 sZ nZ tk5
      have ll := pm.length_eq
      rw [List.length_append] at ll
      obtain ⟨done', ed, hR6⟩ := hv6.each _ _ eR
      have : done' = done := by
        rw [lv, List.getElem?_append_right (Nat.le_refl _), Nat.sub_self] at ed
        exact (Option.some.inj ed).symm
      subst this
      by_cases en : left = []
      · subst en
        rw [List.append_nil] at pm
        refine ⟨.ref L, rfl, .inl ⟨rfl, _, SqL.of hL6⟩, .ref R, rfl, L, _, _, rfl, rfl, hL6, small1000 (by rw [List.length_map]; omega), ?_⟩
        have tk := tk_lst (ys := A'.map V.ref ++ [.ref R]) hL6
        refine ⟨_, _, _, A' ++ [R], rs' ++ [done'], rfl, by rw [upd_same, List.map_append]; rfl, hv6.ext (fun a ha x e => by rw [upd_ne (aA4 a ha).2.1]; exact e), aA4, by simp [li], fun j row' e => ?_, g6.oth LA LT LO Ld nL0 hL6, K6.mut nL, tk6.trans tk⟩
        by_cases hj : j < rs'.length
        · rw [List.getElem?_append_left hj] at e
          exact each j row' e
        · have hj2 := (List.getElem?_eq_some_iff.mp e).1
          rw [List.length_append, List.length_singleton] at hj2
          rw [List.getElem?_append_right (by omega), show j - rs'.length = 0 by omega] at e
          cases e
          rw [show j = i by omega]
          exact ⟨row, er, pm⟩
      · have lpos := List.length_pos_iff.mpr en
        rw [show (!(left.map V.int).isEmpty) = true from by cases left; exact absurd rfl en; rfl]
        refine ⟨fun σ' H' => ∃ (left' done : List Int), left'.length < left.length ∧ σ' = [some (.ref d), some (.ref O), some (.ref L), some (.ref ra), some (.ref F), some (.ref R)] ∧ H' F = some (.lst (left'.map V.int)) ∧ Rw H' (A' ++ [R]) (rs' ++ [done]) ∧ (done ++ left').Perm row ∧ H' L = some (.lst (A'.map V.ref)) ∧ Grw H0 d T O H' us es A rs ∧ Kp d d H H' ∧ Tk H H', fun σ' H' h => ?_, ?_⟩
        · obtain ⟨left', done', h1, h2⟩ := h
          exact ⟨_, h1, left', done', rfl, h2⟩
        refine ⟨.ref R, rfl, .inl ⟨rfl, _, SqL.of hR6⟩, .ref F, rfl, .inl ⟨rfl, _, SqL.of hF6⟩, .ref d, rfl, .ref F, rfl, F, _, rfl, .inl (SqL.of hF6), d, _, rfl, g6.dk, by rw [List.length_map]; omega, by rw [List.length_map]; omega, fun k H7 k0 k1 D7 K7 => ?_⟩
        rw [List.length_map] at k1
        have tk7 := g6.dk.tk K7
        have hF7 := K7 _ _ Fd Fd hF6
        have hL7 := K7 _ _ Ld Ld hL6
        have hR7 := K7 _ _ Rd Rd hR6
        have g7 := g6.take K7 D7
        have hv7 := hv6.ext fun a ha x e => K7 _ _ (aA4 a ha).2.2.1 (aA4 a ha).2.2.1 e
        have K17 := K6.trans K7
        have ey : left[k.toNat]? = some _ := List.getElem?_eq_getElem (by omega)
        refine ⟨F, _, k, k.toNat, _, rfl, rfl, hF7, by omega, by omega, seqIndex_of k0 (by rw [List.length_map]; omega), by rw [List.getElem?_map, ey]; rfl, ?_⟩
        generalize left[k.toNat]'(by omega) = y at ey ⊢
        rw [eras_map]
        have tk8 := tk_lst (ys := (left.eraseIdx k.toNat).map V.int) hF7
        have g8 := g7.oth (ys := (left.eraseIdx k.toNat).map V.int) FA FT FO Fd nF0 hF7
        have hF8 := upd_same (H := H7) (a := F) (o := .lst ((left.eraseIdx k.toNat).map V.int))
        have hL8 : (upd H7 F (.lst ((left.eraseIdx k.toNat).map V.int))) L = some (.lst (A'.map V.ref)) := by rw [upd_ne FL]; exact hL7
        have hR8 : (upd H7 F (.lst ((left.eraseIdx k.toNat).map V.int))) R = some (.lst (done'.map V.int)) := by rw [upd_ne RF.symm]; exact hR7
        have hv8 := hv7.ext (H' := upd H7 F (.lst ((left.eraseIdx k.toNat).map V.int))) fun a ha x e => by rw [upd_ne (FA4 a ha)]; exact e
        have K8 := K17.mut (o := .lst ((left.eraseIdx k.toNat).map V.int)) nFH
        have tk18 := (tk6.trans tk7).trans tk8
        generalize upd H7 F (.lst ((left.eraseIdx k.toNat).map V.int)) = H8 at g8 hF8 hL8 hR8 hv8 K8 tk18
        have pp := (eras_perm ey).append_left done'
        have hv9 := hv8.put eR (done' ++ [y])
        have ex9 : (rs' ++ [done']).set A'.length (done' ++ [y]) = rs' ++ [done' ++ [y]] := by
          rw [lv, List.set_append_right _ _ (Nat.le_refl _), Nat.sub_self]
          rfl
        rw [ex9, List.map_append] at hv9
        have g9 := g8.oth (ys := done'.map V.int ++ [V.int y]) RA RT RO Rd nR0 hR8
        refine ⟨R, _, _, rfl, rfl, hR8, small1000 (by rw [List.length_map]; omega), ?_⟩
        refine ⟨left.eraseIdx k.toNat, done' ++ [y], ?_, rfl, by rw [upd_ne RF]; exact hF8, hv9, ?_, by rw [upd_ne RL]; exact hL8, g9, K8.mut nRH, tk18.trans (tk_lst hR8)⟩
        · rw [List.length_eraseIdx_of_lt (by omega)]
          omega
        · rw [List.append_assoc]
          exact pp.trans pm
    · rintro σ' H2 ⟨y3, y4, y5, A', rs', rfl, hL, hv, aA, li, each, g2, K2, tk2⟩
      rw [List.length_map, lA] at li
      refine ⟨.ref L, rfl, ?_⟩
      exact q L A' rs' H2 (od.perm li each) li ⟨g2.hT, g2.hu, hL, hv, LT, g2.Td, Ld, g2.T0, nL0, fun a ha => ⟨(aA a ha).1, (aA a ha).2.1, (aA a ha).2.2.1, (aA a ha).2.2.2⟩, g2.dk, g2.kp⟩ tk2
end
/-! ### t[::-1] of a tuple -/
theorem fm_congr {α β : Type} {f g : α → Option β} : ∀ {l : List α}, (∀ x ∈ l, f x = g x) → l.filterMap f = l.filterMap g
  | [], _ => rfl
  | x :: l, h => by
    rw [List.filterMap_cons, List.filterMap_cons, h x (by simp), fm_congr (l := l) fun y hy => h y (List.mem_cons_of_mem _ hy)]
theorem back_pick (items : Array Value) : ((List.range items.size).filterMap fun (k : Nat) => items[((items.size : Int) - 1 + (k : Int) * (-1)).toNat]?).toArray = items.toList.reverse.toArray := by
  have e : (List.range items.size).filterMap (fun (k : Nat) => items[((items.size : Int) - 1 + (k : Int) * (-1)).toNat]?) = ((List.range items.size).map fun k => items.size - 1 - k).filterMap (items[·]?) := by
    rw [List.filterMap_map]
    refine fm_congr fun k hk => ?_
    have := List.mem_range.mp hk
    show _ = items[items.size - 1 - k]?
    congr 1
    omega
  rw [e, PySem.W.krv_range, List.filterMap_reverse, PySem.W.krv_all]
section
variable {P : Program} {w : World} {A : PySem.Around} {E : Value → Shared → Prop} {s : Shared}
theorem applied_back {sl : Addr} {vk : Value} {n : Nat} {Q : Int × Int × Nat → Shared → Prop} (hs : s.heap.IsSliceOf sl .none .none vk) (pk : IsPart vk (some (-1))) (h : Q ((n : Int) - 1, -1, n) s) : wpAny (model P w) A (Builtin.Slice.sliceApplied (.ref sl) (pure (n : Int))) Q E s := by
  obtain ⟨os, look, _, flds⟩ := id hs
  unfold Builtin.Slice.sliceApplied Builtin.Slice.sliceFields
  refine wpAny_bind (wpAny_bind (wpAny_field look flds (x := .none) rfl (wpAny_bind (wpAny_field look flds (x := .none) rfl (wpAny_bind (wpAny_field look flds (x := vk) rfl (wpAny_pure ?_)))))))
  refine wpAny_bind (HT.slicePart_ pk ?_)
  show wpAny _ _ (if ((-1 : Int) == 0) = true then _ else _) _ _ s
  rw [if_neg (by decide)]
  refine wpAny_bind (HT.slicePart_ .none (wpAny_bind (HT.slicePart_ .none (wpAny_bind (wpAny_pure ?_)))))
  have pl : Builtin.Slice.slicePlaces ((n : Int) - 1) (-1) (-1) = n := by
    unfold Builtin.Slice.slicePlaces
    rw [if_neg (by decide)]
    by_cases z : (n : Int) - 1 > -1
    · rw [if_pos z, show (-(-1) : Int) = 1 from by decide, Int.ediv_one]
      omega
    · rw [if_neg z]
      omega
  show wpAny _ _ (pure ((n : Int) - 1, (-1 : Int), Builtin.Slice.slicePlaces ((n : Int) - 1) (-1) (-1))) _ _ s
  rw [pl]
  exact wpAny_pure h
theorem getItem_back {t sl : Addr} {items : Array Value} {vk : Value} {Q : Value → Shared → Prop} (ht : IsTup s.heap t items) (hs : s.heap.IsSliceOf sl .none .none vk) (pk : IsPart vk (some (-1))) (hsz : items.size ≤ sizeLine)
    (h : Q (.ref s.heap.objs.size) { s with heap := s.heap.push { cls := .type "tuple", data := .seq items.toList.reverse.toArray } }) : wpAny (model P w) A (getItem (.ref t) (.ref sl)) Q E s := by
  have small : sizeOk (.seq items.toList.reverse.toArray) := by
    show items.toList.reverse.toArray.size ≤ sizeLine
    rw [List.size_toArray, List.length_reverse, Array.length_toList]
    exact hsz
  obtain ⟨os, look, kind, _⟩ := id hs
  have isSl : s.TypeIs (.ref sl) "slice" := ⟨os, look, kind⟩
  unfold getItem
  try with_reducible refine wpAny_holding ?_
  first | refine wpAny_bind (wpAny_pure ?_) | skip
  refine wpAny_bind (wpAny_sequenceKey ht.typeIs (by decide) ?_)
  refine wpAny_bind (wpAny_callSpecial?_slot (name := Str.ofString "__getitem__") ht.typeIs PyProof.Rows.slot_tuple_getitem (wpAny_call_entry PyProof.Rows.slot_tuple_getitem ht.typeIs PySem.F.entry_tuple_getitem ?_ (PySem.F.args_tuple_getitem_2 _ _)))
  show wpAny _ _ (Builtin.Tuple.tupleItemsOf (.ref t) >>= _) _ _ s
  refine wpAny_bind (tupleItemsOf_ ht ?_)
  refine wpAny_bind (wpAny_typeOf isSl ?_)
  rw [if_pos (by decide)]
  refine wpAny_bind (applied_back hs pk ?_)
  have no : ¬ (((items.size : Int) - 1 == 0 && (-1 : Int) == 1 && items.size == items.size) = true) := by
    intro z
    rw [Bool.and_eq_true, Bool.and_eq_true] at z
    exact absurd z.1.2 (by decide)
  show wpAny _ _ (if ((items.size : Int) - 1 == 0 && (-1 : Int) == 1 && items.size == items.size) = true then _ else _) _ _ s
  rw [if_neg no, back_pick]
  first
    | exact wpAny_bind (m := Builtin.Tuple.tupleExact _) (wpAny_newObj_type (wpAny_pure ⟨_, rfl, wpAny_pure h⟩) small)
    | exact wpAny_bind (wpAny_bind (m := Builtin.Tuple.tupleExact _) (wpAny_newObj_type (wpAny_pure (wpAny_pure ⟨_, rfl, wpAny_pure h⟩)) small))
    | exact wpAny_bind (m := Builtin.Tuple.tupleExact _) (wpAny_newObj_type (wpAny_bind (wpAny_pure (wpAny_pure ⟨_, rfl, wpAny_pure h⟩))) small)
end
def tRevT (K : PySem.W.Frag) (te : TE) : TE := fun σ H Q => te σ H fun x H1 => ∃ a xs, x = .ref a ∧ SqT K H1 a xs ∧ ∀ p, H1 p = none → Q (.ref p) (upd H1 p (.tup xs.reverse))
theorem pe_revT {X : Cx} {e : Expr} {te : TE} {k : Nat} {p1 p2 p3 pos : Pos} (he : PE X e te) : PE X (.Subscript e (.Slice none none (some (.UnaryOp .USub (.Constant (.int 1) k p1) p2)) p3) pos) (tRevT X.K te) := by
  refine ⟨fun pins s σ H Q I want => Subscript_ (thn (he.run pins s σ H _ I want) fun v s1 got => ?_)⟩
  obtain ⟨x, H1, I1, r1, a, xs, ex, hx, q⟩ := got
  subst ex
  obtain rfl : v = Value.ref a := r1
  have step : PO X (some (.UnaryOp .USub (.Constant (.int 1) k p1) p2)) (tPart (tUn (rU fun i => .int (-i)) (tC (.int 1)))) := po_some (pe_un un_neg pe_int)
  refine wpAny_Slice (thn (po_none.run pins s1 σ H1 (fun o H2 => o = none ∧ H2 = H1) I1 ⟨rfl, rfl⟩) fun vl s2 got2 => ?_)
  obtain ⟨_, _, I2, pl, rfl, rfl⟩ := got2
  refine thn (po_none.run pins s2 σ _ (fun o H3 => o = none ∧ H3 = _) I2 ⟨rfl, rfl⟩) fun vu s3 got3 => ?_
  obtain ⟨_, _, I3, pu, rfl, rfl⟩ := got3
  refine thn (step.run pins s3 σ _ (fun o H4 => o = some (-1) ∧ H4 = _) I3 ⟨1, rfl, -1, rfl, rfl, rfl⟩) fun vk s4 got4 => ?_
  obtain ⟨_, H4, I4, pk, rfl, rfl⟩ := got4
  cases pl
  cases pu
  have I5 : Inv X pins σ H4 { s4 with heap := s4.heap.push { cls := .type "slice", data := .fields #[.none, .none, vk] } } := I4.kept (t' := s4.toks) fun b ob z => Heap.get?_push_of_some _ z
  obtain ⟨its, rel, tup, small⟩ := I5.tuple hx
  have hlen := rel.length
  show wpAny (model X.prog X.w) X.A (subscriptTail e (.Slice none none (some (.UnaryOp .USub (.Constant (.int 1) k p1) p2)) p3) (.ref a) (.ref s4.heap.objs.size)) (EP X pins σ Q) X.xe _
  refine tail_any (ops := [.ref a, .ref s4.heap.objs.size]) tup.typeIs PyProof.Rows.slot_tuple_getitem.lookup ?_ (by with_unfolding_all rfl)
  refine getItem_back tup (Heap.IsSliceOf.new _ .none .none vk) pk (by rw [List.size_toArray]; omega) ?_
  refine ⟨.ref _, _, I5.laid (t' := s4.toks) (o := .tup xs.reverse) (fun b ob z => Heap.get?_push_of_some _ z) (Nat.le_refl _) ?_, rfl, q _ (I5.hok.fresh (Nat.le_refl _))⟩
  exact ⟨by rw [List.length_reverse]; exact small, _, rel.reverse, IsTup.new _ _⟩
/-! ### k53: the law -/
theorem rounds_tie {ts : List Tie} {n : Nat} (ok : WebOk n ts) {es : List (Int × Int)} (tw : TwE ts es) : ∀ e ∈ es, rounds ts n e.1 = rounds ts n e.2 := (tw_lab tw).mpr fun t ht => by
  have o := ok.ok t ht
  exact (rounds_cls ok.ok t.one t.other ⟨o.1, o.2.1⟩ ⟨o.2.2.1, o.2.2.2.1⟩).mpr (Rch.adj ⟨t, ht, rfl, .inl ⟨rfl, rfl⟩⟩)
theorem AnsF.one {ts : List Tie} {n : Nat} {es : List (Int × Int)} {rs : List (List Int)} {b : Bool} (ok : WebOk n ts) (tw : TwE ts es) (od : Ord rs es) {S : List Dt} (hS : ∀ x, x ∈ S ↔ x ∈ (stepsB es rs rs.length).map (·.1)) (h : b = true ↔ FlatL (rounds ts n) n ts (facesG (stepsB es rs rs.length) S).1) : AnsF ts n es rs b := fun S' hS' =>
  h.trans (FlatL.of fun c => Dec.fc (NxR.fn od) (od.nxLab (rounds_tie ok tw)) (facesG_decE od hS) (facesG_decE od hS') c)
theorem AnsF.rot {ts : List Tie} {n : Nat} {es : List (Int × Int)} {rs rs' : List (List Int)} {b : Bool} (ok : WebOk n ts) (tw : TwE ts es) (od : Ord rs es) (od' : Ord rs' es) (r : Rot rs rs') : AnsF ts n es rs b ↔ AnsF ts n es rs' b := by
  constructor
  · intro h S' hS'
    exact (h _ fun x => Iff.rfl).trans (flat_same od' (rounds_tie ok tw) (facesG_decE od fun x => Iff.rfl) (facesG_decE od' hS') r)
  · intro h S hS
    exact (h _ fun x => Iff.rfl).trans (flat_same od' (rounds_tie ok tw) (facesG_decE od hS) (facesG_decE od' fun x => Iff.rfl) r).symm
theorem AnsF.back {ts : List Tie} {n : Nat} {es : List (Int × Int)} {rs : List (List Int)} {b : Bool} (ok : WebOk n ts) (tw : TwE ts es) (od : Ord rs es) (od' : Ord (rs.map List.reverse) es) (h : AnsF ts n es rs b) : AnsF ts n es (rs.map List.reverse) b := fun S' hS' =>
  (h _ fun x => Iff.rfl).trans (flat_back od' (rounds_tie ok tw) (facesG_decE od fun x => Iff.rfl) (facesG_decE od' hS'))
theorem AnsF.grown {ts : List Tie} {n : Nat} {es : List (Int × Int)} {rs : List (List Int)} (ok : WebOk n ts) (tw : TwE ts es) (u : EulE es rs) (ln : rs.length = n) : AnsF ts n es rs true := fun S hS => by
  obtain ⟨lab, fs, u⟩ := u
  subst ln
  have rg : ∀ f ∈ fs, ∀ x ∈ f, 0 ≤ x.2 ∧ x.2 < (rs.length : Int) := fun f hf x hx => (u.din hf hx).rng u.od
  have cls : ∀ x y, 0 ≤ x ∧ x < (rs.length : Int) → 0 ≤ y ∧ y < (rs.length : Int) → (lab x = lab y ↔ Rch ts x y) := fun x y hx hy => by
    have ix : ((x.toNat : Nat) : Int) = x := by omega
    have iy : ((y.toNat : Nat) : Int) = y := by omega
    refine ⟨fun e => ?_, rch_lab ((tw_lab tw).mp u.tie)⟩
    have := cn_rch tw (u.con x.toNat y.toNat (by omega) (by omega) (by rw [ix, iy]; exact e))
    rwa [ix, iy] at this
  have f1 := (flat_iff ok.ok cls rg).mpr (u.flat tw)
  have f2 := (flat_iff ok.ok (rounds_cls ok.ok) rg).mp f1
  exact ⟨fun _ => (FlatL.of fun c => Dec.fc (NxR.fn u.od) (u.od.nxLab (rounds_tie ok tw)) u.dec (facesG_decE u.od hS) c).mp f2, fun _ => rfl⟩
theorem Ord.rev {rs : List (List Int)} {es : List (Int × Int)} (od : Ord rs es) : Ord (rs.map List.reverse) es := od.perm (by rw [List.length_map]) fun i row' e => by
  rw [List.getElem?_map] at e
  obtain ⟨row, er, rfl⟩ := Option.map_eq_some_iff.mp e
  exact ⟨row, er, List.reverse_perm _⟩
def spLaw (K : PySem.W.Frag) : Sp := fun vs H Q _ => ∃ (a : Addr) (ns : List Int), vs = [.ref a] ∧ SqL K H a (ns.map V.int) ∧ ns.length ≤ 63 ∧ ∀ H', Q (.bl true) H'
section
variable {P : Program} {w : World} {K : PySem.W.Frag} {mg : Str → Option Value} {base : Heap}
set_option maxHeartbeats 4000000 in
theorem ok_law {f : Addr} {fd : FuncData} (F : Fun K "law" "law" s_law f fd) (M : Free mg) (D_l_deck : Df P w K mg base 2 "_law_deck" ["_law_script"] (spDeckF K)) (D_l_take : Df P w K mg base 2 "_law_take" ["_law_deck_here", "_law_most"] spTake) (D_l_grown : Df P w K mg base 3 "_law_grown" ["_law_deck_here", "_law_most", "_law_many_ties"] spGrown) (D_l_web : Df P w K mg base 3 "_law_web" ["_law_deck_here", "_law_ties", "_law_places"] spWebF) (D_l_turned : Df P w K mg base 3 "_law_turned" ["_law_deck_here", "_law_orders"] spTurned) (D_l_right : Df P w K mg base 5 "_law_right" ["_law_web_here", "_law_orders", "_law_due"] spRight53) (D_l_crossed : Df P w K mg base 3 "_law_crossed" ["_law_deck_here", "_law_orders"] spCrossed) (D_l_mingled : Df P w K mg base 3 "_law_mingled" ["_law_deck_here", "_law_orders"] spMingled) (D_l_is_flat : Df P w K mg base 2 "_law_is_flat" ["_law_web_here", "_law_orders"] spIsFlat) : FnOk P w K mg base CX0 6 f fd ["_law_script"] (spLaw K) := by
  obtain ⟨f_l_deck, fd_l_deck, G_l_deck, g_l_deck, k_l_deck, b_l_deck⟩ := D_l_deck
  obtain ⟨f_l_take, fd_l_take, G_l_take, g_l_take, k_l_take, b_l_take⟩ := D_l_take
  obtain ⟨f_l_grown, fd_l_grown, G_l_grown, g_l_grown, k_l_grown, b_l_grown⟩ := D_l_grown
  obtain ⟨f_l_web, fd_l_web, G_l_web, g_l_web, k_l_web, b_l_web⟩ := D_l_web
  obtain ⟨f_l_turned, fd_l_turned, G_l_turned, g_l_turned, k_l_turned, b_l_turned⟩ := D_l_turned
  obtain ⟨f_l_right, fd_l_right, G_l_right, g_l_right, k_l_right, b_l_right⟩ := D_l_right
  obtain ⟨f_l_crossed, fd_l_crossed, G_l_crossed, g_l_crossed, k_l_crossed, b_l_crossed⟩ := D_l_crossed
  obtain ⟨f_l_mingled, fd_l_mingled, G_l_mingled, g_l_mingled, k_l_mingled, b_l_mingled⟩ := D_l_mingled
  obtain ⟨f_l_is_flat, fd_l_is_flat, G_l_is_flat, g_l_is_flat, k_l_is_flat, b_l_is_flat⟩ := D_l_is_flat
  refine F.ok sc_law (fun vs H Q E h => ?_) (fun cdv A outer s H vs Q E hr h => ?_)
  · obtain ⟨sc, ns, rfl, _⟩ := h
    rfl
  · obtain ⟨sc, ns, rfl, hS, few63, q⟩ := h
    refine ⟨_, (pss_cons (ps_set (i := 1) sc_law.nd rfl (.inl rfl) (pe_call G_l_deck (hr.mono (by decide)) (by rfl) g_l_deck k_l_deck b_l_deck .nil pass0 (pa_cons (pv 0) pa_nil)))
      (pss_cons (ps_for PassesOwn.never rfl (pi_range1 (by rfl) M.range (pa_cons pe_int pa_nil)) (pg_name (i := 2) sc_law.nd rfl (.inl rfl))
        (pss_cons (ps_set (i := 3) sc_law.nd rfl (.inl rfl) (pe_callTy call_int1 (by rfl) M.int (by decide +kernel) (pa_cons (pe_cmpR op_eq (pe_call G_l_take (hr.mono (by decide)) (by rfl) g_l_take k_l_take b_l_take .nil pass0 (pa_cons (pv 1) (pa_cons pe_int pa_nil))) pe_int (nomark _)) pa_nil)))
        (pss_cons (ps_set (i := 4) sc_law.nd rfl (.inl rfl) (pe_ix ix_list (pe_lst (pa_cons (pe_op op_add pe_int (pe_call G_l_take (hr.mono (by decide)) (by rfl) g_l_take k_l_take b_l_take .nil pass0 (pa_cons (pv 1) (pa_cons pe_int pa_nil)))) (pa_cons (pe_op op_add pe_int (pe_call G_l_take (hr.mono (by decide)) (by rfl) g_l_take k_l_take b_l_take .nil pass0 (pa_cons (pv 1) (pa_cons pe_int pa_nil)))) pa_nil))) (pv 3) (fun _ _ => rfl)))
        (pss_cons (ps_asg (pe_call G_l_grown (hr.mono (by decide)) (by rfl) g_l_grown k_l_grown b_l_grown .nil pass0 (pa_cons (pv 1) (pa_cons (pv 4) (pa_cons (pe_ix ix_list (pe_lst (pa_cons (pe_call G_l_take (hr.mono (by decide)) (by rfl) g_l_take k_l_take b_l_take .nil pass0 (pa_cons (pv 1) (pa_cons pe_int pa_nil))) (pa_cons (pe_op op_add pe_int (pe_call G_l_take (hr.mono (by decide)) (by rfl) g_l_take k_l_take b_l_take .nil pass0 (pa_cons (pv 1) (pa_cons pe_int pa_nil)))) pa_nil))) (pv 3) (fun _ _ => rfl)) pa_nil)))) (pg_tup rfl (pgs_cons (pg_name (i := 5) sc_law.nd rfl (.inl rfl)) (pgs_cons (pg_name (i := 6) sc_law.nd rfl (.inl rfl)) pgs_nil))))
        (pss_cons (ps_set (i := 7) sc_law.nd rfl (.inl rfl) (pe_call G_l_web (hr.mono (by decide)) (by rfl) g_l_web k_l_web b_l_web .nil pass0 (pa_cons (pv 1) (pa_cons (pv 5) (pa_cons (pe_callB call_len_seq (by rfl) M.len PySem.boot_len (pa_cons (pv 6) pa_nil)) pa_nil)))))
        (pss_cons (ps_if (pt_not (pt_val (pe_call G_l_right (hr.mono (by decide)) (by rfl) g_l_right k_l_right b_l_right .nil pass0 (pa_cons (pv 7) (pa_cons (pe_call G_l_turned (hr.mono (by decide)) (by rfl) g_l_turned k_l_turned b_l_turned .nil pass0 (pa_cons (pv 1) (pa_cons (pv 6) pa_nil))) (pa_cons pe_bl pa_nil))))))
          (pss_one (ps_ret pe_bl))
          pss_nil)
        (pss_cons (ps_for PassesOwn.never rfl (pi_range1 (by rfl) M.range (pa_cons (pe_op op_add pe_int (pe_call G_l_take (hr.mono (by decide)) (by rfl) g_l_take k_l_take b_l_take .nil pass0 (pa_cons (pv 1) (pa_cons pe_int pa_nil)))) pa_nil)) (pg_name (i := 8) sc_law.nd rfl (.inl rfl))
          (pss_one (ps_expr (pe_call G_l_crossed (hr.mono (by decide)) (by rfl) g_l_crossed k_l_crossed b_l_crossed .nil pass0 (pa_cons (pv 1) (pa_cons (pv 6) pa_nil))))))
        (Evl.pss_cut (ps_if (pt_cmpR op_eq (pe_call G_l_take (hr.mono (by decide)) (by rfl) g_l_take k_l_take b_l_take .nil pass0 (pa_cons (pv 1) (pa_cons pe_int pa_nil))) pe_int (nomark _))
          (pss_one (ps_set (i := 6) sc_law.nd rfl (.inl rfl) (pe_call G_l_mingled (hr.mono (by decide)) (by rfl) g_l_mingled k_l_mingled b_l_mingled .nil pass0 (pa_cons (pv 1) (pa_cons (pv 6) pa_nil)))))
          pss_nil)
        (pss_cons (ps_set (i := 9) sc_law.nd rfl (.inl rfl) (pe_call G_l_turned (hr.mono (by decide)) (by rfl) g_l_turned k_l_turned b_l_turned .nil pass0 (pa_cons (pv 1) (pa_cons (pv 6) pa_nil))))
        (pss_cons (ps_set (i := 10) sc_law.nd rfl (.inl rfl) (pe_call G_l_is_flat (hr.mono (by decide)) (by rfl) g_l_is_flat k_l_is_flat b_l_is_flat .nil pass0 (pa_cons (pv 7) (pa_cons (pv 9) pa_nil))))
        (pss_cons (ps_if (PW.pt (pw_or (pt_not (pt_val (pe_call G_l_right (hr.mono (by decide)) (by rfl) g_l_right k_l_right b_l_right .nil pass0 (pa_cons (pv 7) (pa_cons (pv 9) (pa_cons (pv 10) pa_nil)))))) (pw_or1 (pt_not (pt_val (pe_call G_l_right (hr.mono (by decide)) (by rfl) g_l_right k_l_right b_l_right .nil pass0 (pa_cons (pv 7) (pa_cons (pe_call G_l_turned (hr.mono (by decide)) (by rfl) g_l_turned k_l_turned b_l_turned .nil pass0 (pa_cons (pv 1) (pa_cons (pv 6) pa_nil))) (pa_cons (pv 10) pa_nil)))))))))
          (pss_one (ps_ret pe_bl))
          pss_nil)
        (pss_one (ps_if (pt_not (pt_val (pe_call G_l_right (hr.mono (by decide)) (by rfl) g_l_right k_l_right b_l_right .nil pass0 (pa_cons (pv 7) (pa_cons (pe_callTy call_tuple_of (by rfl) M.tuple (by decide +kernel) (pa_cons (pe_lc (own := [("_law_order", 11)]) (g := (gName 11)) (tt := tYes) (te := tRevT K (tVar 11)) rfl sc_law.nd (pi_tup (pv 9)) (blkOk_by (N := N_law) (sc := defScope s_law) (own := [("_law_order", 11)]) (by decide +kernel)) (fun _ _ _ _ _ => (pg_name (i := 11) sc_law.nd rfl (.inl rfl))) (fun _ _ _ _ _ => pts_nil) (fun _ _ _ _ _ => (pe_revT (pv 11)))) pa_nil)) (pa_cons (pv 10) pa_nil))))))
          (pss_one (ps_ret pe_bl))
          pss_nil)))))))))))))
      (pss_one (ps_ret pe_bl)))), ?_⟩
    refine ⟨.ref sc, rfl, sc, ns, rfl, hS, few63, fun d H1 s1 nd D1 => ?_⟩
    refine ⟨3, rfl, by decide, by decide, ?_⟩
    refine for_range (lo := 0) (n := 3) (fun i σ' H' => ∃ y2 y3 y4 y5 y6 y7 y8 y9 y10 : Option V, σ' = [some (.ref sc), some (.ref d), y2, y3, y4, y5, y6, y7, y8, y9, y10, none] ∧ FDk H' d) ⟨_, _, _, _, _, _, _, _, _, rfl, D1⟩ ?_ ?_
    · clear D1 s1 nd
      rintro i σ' H2 hi ⟨y2, y3, y4, y5, y6, y7, y8, y9, y10, rfl, D2⟩
      refine ⟨.ref d, rfl, d, 8, rfl, D2, by decide, by decide, fun v H3 v0 v1 D3 K3 => ⟨rfl, .inr ⟨_, rfl, ?_⟩⟩⟩
      generalize decide (V.int v = V.int 5) = gr
      refine ⟨.ref d, rfl, d, 9, rfl, D3, by decide, by decide, fun a H4 a0 a1 D4 K4 => ⟨_, _, rfl, rfl, .ref d, rfl, d, 31, rfl, D4, by decide, by decide, fun b H5 b0 b1 D5 K5 => ⟨_, _, rfl, rfl, by show 2 ≤ sizeLine; decide, fun p np => ?_⟩⟩⟩
      obtain ⟨m, em, m0, m1⟩ : ∃ m : Int, (if gr = true then V.int (10 + b) else V.int (1 + a)) = V.int m ∧ 1 ≤ m ∧ m ≤ 40 := by
        cases gr
        · exact ⟨1 + a, rfl, by omega, by omega⟩
        · exact ⟨10 + b, rfl, by omega, by omega⟩
      refine ⟨.int (if gr = true then 1 else 0), rfl, p, _, _, .int m, rfl, rfl, SqL.of upd_same, (by rw [← em]; cases gr <;> rfl), ?_⟩
      have D6 := D5.same (same_new (o := .lst [.int (1 + a), .int (10 + b)]) np)
      generalize upd H5 p (.lst [.int (1 + a), .int (10 + b)]) = H6 at D6
      clear D3 K3 D4 K4 D5 K5 np
      refine ⟨.ref d, rfl, .int m, rfl, .ref d, rfl, d, 16, rfl, D6, by decide, by decide, fun a' H7 a0' a1' D7 K7 => ⟨.ref d, rfl, d, 41, rfl, D7, by decide, by decide, fun b' H8 b0' b1' D8 K8 => ⟨_, _, rfl, rfl, by show 2 ≤ sizeLine; decide, fun p' np' => ?_⟩⟩⟩
      obtain ⟨y, ey, z0, z1⟩ : ∃ y : Int, (if gr = true then V.int (20 + b') else V.int a') = V.int y ∧ 0 ≤ y ∧ y ≤ 60 := by
        cases gr
        · exact ⟨a', rfl, by omega, by omega⟩
        · exact ⟨20 + b', rfl, by omega, by omega⟩
      have D9 := D8.same (same_new (o := .lst [.int a', .int (20 + b')]) np')
      refine ⟨.int (if gr = true then 1 else 0), rfl, p', _, _, .int y, rfl, rfl, SqL.of upd_same, (by rw [← ey]; cases gr <;> rfl), d, m, y, rfl, D9, m0, by omega, z0, by omega, fun r T O us es A rs H10 hr g od ue r1 r50 le => ?_⟩
      generalize upd H8 p' (.lst [.int a', .int (20 + b')]) = H9 at D9 g
      have le' : es.length ≤ 60 := by omega
      have rl : rs.length ≤ 40 := by omega
      clear K7 K8 D7 D8 D9 np'
      refine ⟨r, _, rfl, SqT.of hr, rfl, _, _, rfl, _, _, rfl, rfl, ?_⟩
      have lA : (A.map V.ref).length = rs.length := by rw [List.length_map]; exact g.rw'.len
      refine ⟨.ref d, rfl, .ref T, rfl, .ref O, rfl, O, _, rfl, .inl (SqL.of g.hO), H9, d, T, O, us, es, A, rs, _, rfl, g, by omega, fun v' ts H12 hW tw g12 K12 => ?_⟩
      rw [lA] at hW
      have ok : WebOk rs.length ts := ⟨by omega, by omega, by rw [tw.1]; omega, fun t ht => by
        obtain ⟨k, ek⟩ := List.getElem?_of_mem ht
        have hk : k < es.length := by rw [← tw.1]; exact (List.getElem?_eq_some_iff.mp ek).1
        have en := od.ends _ (List.getElem_mem hk)
        rcases tw.2 k t _ ek (List.getElem?_eq_getElem hk) with z | z
        · exact ⟨by omega, by omega, by omega, by omega, by omega⟩
        · exact ⟨by omega, by omega, by omega, by omega, by omega⟩⟩
      refine ⟨v', rfl, .ref d, rfl, .ref O, rfl, H9, d, T, O, us, es, A, rs, rfl, g12, od, by omega, by omega, fun r2 vs2 rs2 H13 hr2 hp2 od2 l2 rot2 g13 K13 => ?_⟩
      refine ⟨v', rs.length, ts, r2, vs2, rs2, es, true, rfl, hW.tk (g12.dk.tk K13), ok, hr2, hp2, od2, tw, l2, by omega, (AnsF.rot ok tw od od2 rot2).mp (AnsF.grown ok tw ue rfl), fun H14 s14 => ⟨_, rfl, ?_⟩⟩
      have hW14 := (hW.tk (g12.dk.tk K13)).tk (Same.tk s14)
      have g14 := g13.same s14
      clear hr2 hp2 rot2 K13 g13 g12 hW K12 s14 g hr
      refine ⟨.ref d, rfl, d, 2, rfl, g14.dk, by decide, by decide, fun w0 H15 w1 w2 D15 K15 => ⟨_, _, rfl, rfl, _, rfl, by omega, by omega, ?_⟩⟩
      have g15 := g14.take K15 D15
      have hW15 := hW14.tk (g14.dk.tk K15)
      refine for_range (lo := 0) (n := (1 + w0).toNat) (fun j σ' H' => ∃ (y8 : Option V) (rs' : List (List Int)), σ' = [some (.ref sc), some (.ref d), some (.int (0 + (i : Nat))), some (.int (if gr = true then 1 else 0)), some (.int m), some (.ref T), some (.ref O), some v', y8, y9, y10, none] ∧ Grw H9 d T O H' us es A rs' ∧ Ord rs' es ∧ rs'.length = rs.length ∧ WebAt H' v' rs.length ts) ⟨_, rs, rfl, g15, od, rfl, hW15⟩ ?_ ?_
      · clear g15 hW15 D15 K15 hW14 g14
        rintro j σ' H16 hj ⟨y8, rs', rfl, g16, od16, l16, hW16⟩
        exact ⟨.ref d, rfl, .ref O, rfl, H9, d, T, O, us, es, A, rs', rfl, g16, od16, by omega, by omega, fun rs'' H' od' l g' tk => ⟨_, rs'', rfl, g', od', by omega, hW16.tk tk⟩⟩
      clear g15 hW15 D15 K15 hW14 g14
      rintro σ' H16 ⟨y8, rs', rfl, g16, od16, l16, hW16⟩
      refine ⟨fun σ' H' => ∃ (O' : Addr) (A' : List Addr) (rs' : List (List Int)), σ' = [some (.ref sc), some (.ref d), some (.int (0 + (i : Nat))), some (.int (if gr = true then 1 else 0)), some (.int m), some (.ref T), some (.ref O'), some v', y8, y9, y10, none] ∧ Grw H9 d T O' H' us es A' rs' ∧ Ord rs' es ∧ rs'.length = rs.length ∧ WebAt H' v' rs.length ts, ?_, ?_⟩
      · refine ⟨.ref d, rfl, d, 4, rfl, g16.dk, by decide, by decide, fun w3 H17 w4 w5 D17 K17 => ⟨rfl, _, rfl, ?_⟩⟩
        have g17 := g16.take K17 D17
        have hW17 := hW16.tk (g16.dk.tk K17)
        refine ite2 (fun _ => ?_) (fun _ => ⟨O, A, rs', rfl, g17, od16, l16, hW17⟩)
        exact ⟨.ref d, rfl, .ref O, rfl, H9, d, T, O, us, es, A, rs', rfl, g17, od16, by omega, by omega, fun O' A' rs'' H' od' l g' tk => ⟨O', A', rs'', rfl, g', od', by omega, hW17.tk tk⟩⟩
      clear g16 od16 l16 hW16
      rintro σ' H17 ⟨O', A', rs1, rfl, g17, od1, l1, hW17⟩
      refine ⟨.ref d, rfl, .ref O', rfl, H9, d, T, O', us, es, A', rs1, rfl, g17, od1, by omega, by omega, fun r3 vs3 rs3 H18 hr3 hp3 od3 l3 rot3 g18 K18 => ?_⟩
      have hW18 := hW17.tk (g17.dk.tk K18)
      refine ⟨v', rfl, .ref r3, rfl, v', rs.length, ts, r3, vs3, rs3, es, rfl, hW18, ok, hr3, hp3, od3, tw, by omega, by omega, fun b1 S H19 s19 hS19 hb => ?_⟩
      have an3 := AnsF.one ok tw od3 hS19 hb
      have an1 := (AnsF.rot ok tw od1 od3 rot3).mpr an3
      have hr19 := s19 _ _ hr3
      have hp19 := Paired.mono (fun _ _ x => IntsV.tk (Same.tk s19) x) hp3
      refine ⟨v', rfl, .ref r3, rfl, .bl b1, rfl, v', rs.length, ts, r3, vs3, rs3, es, b1, rfl, hW18.tk (Same.tk s19), ok, hr19, hp19, od3, tw, by omega, by omega, an3, fun H20 s20 => ⟨_, rfl, ?_⟩⟩
      have g20 := (g18.same s19).same s20
      have hW20 := (hW18.tk (Same.tk s19)).tk (Same.tk s20)
      refine ⟨v', rfl, .ref d, rfl, .ref O', rfl, H9, d, T, O', us, es, A', rs1, rfl, g20, od1, by omega, by omega, fun r4 vs4 rs4 H21 hr4 hp4 od4 l4 rot4 g21 K21 => ?_⟩
      have tk21 := g20.dk.tk K21
      refine ⟨.bl b1, rfl, v', rs.length, ts, r4, vs4, rs4, es, b1, rfl, hW20.tk tk21, ok, hr4, hp4, od4, tw, by omega, by omega, (AnsF.rot ok tw od1 od4 rot4).mp an1, fun H22 s22 => ⟨_, rfl, ?_⟩⟩
      have tk22 := (tk21.trans (Same.tk s22))
      have hr22 := tk22 _ _ (s20 _ _ hr19)
      have hp22 := Paired.mono (fun _ _ x => IntsV.tk ((Same.tk s20).trans tk22) x) hp19
      have hW22 := hW20.tk tk22
      have D22 := g21.dk.same s22
      clear hr4 hp4 rot4 K21 g21 g20 hW20 s22 tk22 tk21 s20 hr19 hp19 s19 hr3 hp3 hW18 g18 K18 rot3 hb hS19
      refine ⟨v', rfl, .ref r3, rfl, r3, rfl, ⟨_, SqT.of hr22⟩, fun Z nZ => ?_⟩
      have lv3 := Paired.length hp22
      refine lc_tup (xs := vs3) (fun j H' => ∃ zs, H' Z = some (.lst zs) ∧ Paired (IntsV H') zs ((rs3.take j).map List.reverse) ∧ Same H22 H') ⟨[], upd_same, .nil, same_new nZ⟩ (fun j H' _ h => by
        obtain ⟨_, _, _, s⟩ := h
        exact SqT.of (s _ _ hr22)) ?_ ?_
      · rintro j x H23 ex ⟨zs, hZ, hz, s23⟩
        obtain ⟨row, er, c, rfl, hc⟩ := Paired.at hp22 ex
        have lz := Paired.length hz
        rw [List.length_map, List.length_take] at lz
        have jl := (List.getElem?_eq_some_iff.mp er).1
        refine ⟨rfl, .ref c, rfl, c, _, rfl, SqT.of (s23 _ _ hc), fun p np => ?_⟩
        have sp := same_new (o := .tup (row.map V.int).reverse) np
        have hZp := sp _ _ hZ
        have hpp := upd_same (H := H23) (a := p) (o := .tup (row.map V.int).reverse)
        have hzp := Paired.mono (fun _ _ x => IntsV.tk (Same.tk sp) x) hz
        have spp := s23.trans sp
        generalize upd H23 p (.tup (row.map V.int).reverse) = H24 at hZp hpp hzp spp
        have tk := tk_lst (ys := zs ++ [.ref p]) hZp
        refine ⟨zs, hZp, small1000 (by omega), zs ++ [.ref p], upd_same, ?_, Same.mut spp nZ⟩
        rw [List.take_add_one, er, List.map_append]
        exact Paired.snoc (Paired.mono (fun _ _ x => IntsV.tk tk x) hzp) ⟨p, rfl, tk _ _ (by rw [hpp, List.map_reverse])⟩
      rintro H23 ⟨zs, hZ, hz, s23⟩
      rw [lv3, List.take_length] at hz
      refine ⟨Z, _, rfl, .inl ⟨SqL.of hZ, fun r5 nr5 => ?_⟩⟩
      have s5 := same_new (o := .tup zs) nr5
      refine ⟨.bl b1, rfl, v', rs.length, ts, r5, zs, rs3.map List.reverse, es, b1, rfl, (hW22.tk (Same.tk s23)).tk (Same.tk s5), ok, upd_same, Paired.mono (fun _ _ x => IntsV.tk (Same.tk s5) x) hz, od3.rev, tw, by rw [List.length_map]; omega, by omega, an3.back ok tw od3 od3.rev, fun H24 s24 => ⟨_, rfl, ?_⟩⟩
      exact ⟨_, _, _, _, _, _, _, _, _, rfl, ((D22.same s23).same s5).same s24⟩
    · rintro σ' H2 ⟨y2, y3, y4, y5, y6, y7, y8, y9, y10, rfl, D2⟩
      exact q _
end
/-! ### the end of a law whose defs hold generator expressions: their tables are empty behind the top -/
theorem walk_tabs {l : PySem.W.OpenLaw} {n k : Nat} {q : Program} {loose : List Str} {XP : (Str → Option Value) → Heap → Prop} {YP : World → Heap → Prop} {d : DefRec} {K : Params → PySem.W.Frag} {x : Str}
    (hn : l.most = some n) (hn2 : n ≤ sizeLine) (hdf : d.params.defaults = []) (hr : Room k callerA) (hY : ∀ (w : World) (h : Heap), YP w h → (K w.params).In h)
    (F : ∀ (w : World) (mg : Str → Option Value) (fa : Addr) (h : Heap), (K w.params).In h → h.Ns mainGlobals mg → mg d.name = some (.ref fa) →
      (∀ (y : Str) (fy : Addr), ((recsOf q).any fun e => e.name == y) = true → mg y = some (.ref fy) → LamX.OwnTab (K w.params) fy h) → LamX.LawAtS l w (K w.params) CX0 k n x mg fa h) :
    PySem.W.WalkO q loose XP YP l.row.toRowW d [] (fun f vs => PySem.call f vs) := by
  refine Att.attach_callB hn hdf fun w s₀ s₁ mg mb fa o pm cd doc a vs ns G Y ho hd hcd hmg hobj hints hlen hbits hg => ?_
  have KX := hY w _ Y
  have tabs : ∀ (y : Str) (fy : Addr), ((recsOf q).any fun e => e.name == y) = true → mg y = some (.ref fy) → LamX.OwnTab (K w.params) fy s₁.heap := fun y fy hy hm c P o1 fd1 e dd vs1 sl k1 k2 k3 k4 k5 => by
    obtain ⟨dL, hmem, hnm⟩ := List.any_eq_true.mp hy
    have hnm : dL.name = y := beq_iff_eq.mp hnm
    obtain ⟨a', o', fd', c', P', h1, h2, h3, h4, h5, h6⟩ := G.T.tab dL hmem
    rw [hnm, hm] at h1
    cases h1
    rw [KX _ _ k1] at h2
    cases h2
    rw [k2] at h3
    cases h3
    rw [k3] at h4
    cases h4
    obtain ⟨⟨oc, vc, e1, _, e3, e4⟩, hP⟩ := h6
    rw [KX _ _ k4] at e1
    cases e1
    cases e3
    rw [k5] at e4
    cases e4
    exact hP
  obtain ⟨fd, cs, sp, hT, nT, C, hb, hsp, hF⟩ := F w mg fa _ KX G.T.g hmg tabs
  exact LamX.law_callTs KX G.T.g G.T.b G.T.builtins G.T.nolimit hg hT nT C G.T.bmain hobj hints (Nat.le_trans hlen hn2) hr hF hb (fun H hH hS => hsp H a ns hlen hbits hH hS) fun H e s' z => z
/-- where a def stands, and where its code object does -/
structure At (K : PySem.W.Frag) (x : Str) (st : Stmt) (f : Addr) : Prop where
  ns : PySem.W.nsIn K mainGlobals x = some (some (.ref f))
  ex : ∃ (oc : Value) (od : Option Addr) (kV doc pm : Value) (an : Option Addr) (cdv ct : Value) (osl : Array (Option Value)),
    K.lookup f = some ⟨oc, od, .func (PySem.W.fnOf x x (defArgs st) (defBody st) (defScope st) .none kV doc pm an cdv ct), osl⟩ ∧ PySem.W.codeIn K cdv x = true
  kp : PySem.W.keepIn K (.ref f) = true
theorem at_mk {K : PySem.W.Frag} {x : Str} {st : Stmt} {f : Addr} {oc : Value} {od an : Option Addr} {osl : Array (Option Value)} {kV doc pm cdv ct : Value} (a : PySem.W.nsIn K mainGlobals x = some (some (.ref f)))
    (l : K.lookup f = some ⟨oc, od, .func (PySem.W.fnOf x x (defArgs st) (defBody st) (defScope st) .none kV doc pm an cdv ct), osl⟩) (c : PySem.W.codeIn K cdv x = true) (k : PySem.W.keepIn K (.ref f) = true) : At K x st f := ⟨a, ⟨oc, od, kV, doc, pm, an, cdv, ct, osl, l, c⟩, k⟩
theorem At.fn {K : PySem.W.Frag} {x : Str} {st : Stmt} {f : Addr} (h : At K x st f) : ∃ fd, Fun K x x st f fd := by
  obtain ⟨oc, od, kV, doc, pm, an, cdv, ct, osl, l, c⟩ := h.ex
  exact ⟨_, fun_mk l c h.kp⟩
structure AtC (K : PySem.W.Frag) (x : Str) (st : Stmt) (f c Pt : Addr) : Prop where
  ns : PySem.W.nsIn K mainGlobals x = some (some (.ref f))
  ex : ∃ (oc : Value) (od : Option Addr) (kV doc pm : Value) (an : Option Addr) (ct : Value) (osl : Array (Option Value)),
    K.lookup f = some ⟨oc, od, .func (PySem.W.fnOf x x (defArgs st) (defBody st) (defScope st) .none kV doc pm an (.ref c) ct), osl⟩ ∧ PySem.W.codeIn K (.ref c) x = true
  kp : PySem.W.keepIn K (.ref f) = true
  co : ∃ (dd : Option Addr) (vs : Array Value) (sl : Array (Option Value)) (file : Str) (tf : Tok) (flags : Int) (tg : Tok) (inF : Bool) (text : Int) (tt : Tok), K.lookup c = some ⟨.type "code", dd, .fields vs, sl⟩ ∧ vs[11]? = some (.ref Pt) ∧ vs.getD 11 .none = .ref Pt ∧ vs.getD 18 .none = .str file tf ∧
    vs.getD 7 .none = .int flags tg ∧ vs.getD 9 .none = .bool inF ∧ vs.getD 10 .none = .int text tt ∧ c ≠ Pt
  nP : K.lookup Pt = none
theorem atC_mk {K : PySem.W.Frag} {x : Str} {st : Stmt} {f c Pt : Addr} {oc : Value} {od an dd : Option Addr} {osl sl : Array (Option Value)} {kV doc pm ct : Value} {vs : Array Value} {file : Str} {tf tg tt : Tok} {flags text : Int} {inF : Bool} (a : PySem.W.nsIn K mainGlobals x = some (some (.ref f)))
    (l : K.lookup f = some ⟨oc, od, .func (PySem.W.fnOf x x (defArgs st) (defBody st) (defScope st) .none kV doc pm an (.ref c) ct), osl⟩) (cc : PySem.W.codeIn K (.ref c) x = true) (k : PySem.W.keepIn K (.ref f) = true)
    (lc : K.lookup c = some ⟨.type "code", dd, .fields vs, sl⟩) (v11 : vs[11]? = some (.ref Pt)) (w11 : vs.getD 11 .none = .ref Pt) (v18 : vs.getD 18 .none = .str file tf) (v7 : vs.getD 7 .none = .int flags tg) (v9 : vs.getD 9 .none = .bool inF) (v10 : vs.getD 10 .none = .int text tt) (ne : c ≠ Pt)
    (nP : K.lookup Pt = none) : AtC K x st f c Pt := ⟨a, ⟨oc, od, kV, doc, pm, an, ct, osl, l, cc⟩, k, ⟨dd, vs, sl, file, tf, flags, tg, inF, text, tt, lc, v11, w11, v18, v7, v9, v10, ne⟩, nP⟩
theorem AtC.hd {K : PySem.W.Frag} {h : Heap} {x : Str} {st : Stmt} {f c Pt : Addr} (a : AtC K x st f c Pt) (X : K.In h) : PySem.W.CodeHd h c Pt := by
  obtain ⟨dd, vs, sl, file, tf, flags, tg, inF, text, tt, lc, v11, w11, v18, v7, v9, v10, ne⟩ := a.co
  exact ⟨_, vs, file, tf, flags, tg, inF, text, tt, X _ _ lc, rfl, rfl, v11, w11, v18, v7, v9, v10, ne⟩
theorem AtC.tab {K : PySem.W.Frag} {h : Heap} {x : Str} {st : Stmt} {f c Pt : Addr} (a : AtC K x st f c Pt) (o : LamX.OwnTab K f h) : h.get? Pt = some { cls := .none, data := .fields #[] } := by
  obtain ⟨oc, od, kV, doc, pm, an, ct, osl, l, cc⟩ := a.ex
  obtain ⟨dd, vs, sl, file, tf, flags, tg, inF, text, tt, lc, v11, w11, v18, v7, v9, v10, ne⟩ := a.co
  exact o c Pt _ _ _ _ _ _ l rfl rfl lc v11
section
variable {P : Program} {w : World} {K : PySem.W.Frag} {mg : Str → Option Value} {base : Heap}
theorem Df.of {x : Str} {st : Stmt} {f : Addr} {fd : FuncData} {k : Nat} {ps : List Str} {sp : Sp} (g : mg x = some (.ref f)) (F : Fun K x x st f fd) (G : FnOk P w K mg base CX0 k f fd ps sp)
    (h : ∀ (kV doc pm : Value) (an : Option Addr) (cdv ct : Value) (us : List Value), us.length = ps.length → bindArgs (PySem.W.fnOf x x (defArgs st) (defBody st) (defScope st) .none kV doc pm an cdv ct) ⟨us, []⟩ = pure (ps.zip us)) : Df P w K mg base k x ps sp :=
  ⟨f, fd, G, g, F.kp, F.binds h⟩
end
/-! ### what the top has written -/
section
variable {P : Program} {w : World} {K : PySem.W.Frag} {mg : Str → Option Value} {base : Heap}
set_option maxHeartbeats 0 in
theorem law_at {l : PySem.W.OpenLaw} {w : World} {K : PySem.W.Frag} {h : Heap} {mg : Str → Option Value} {fa f0 f1 f2 f3 f4 f5 f6 f7 f8 f9 f10 f11 f12 f13 f14 f15 f16 f17 f18 f19 f20 f21 f22  : Addr} (X : K.In h) (G : h.Ns mainGlobals mg) (hfa : mg "law" = some (.ref fa))
    
    (a0 : At K "neighbours" s_neighbours f0)
    (a1 : At K "sides_from" s_sides_from f1)
    (a2 : At K "parts_of" s_parts_of f2)
    (a3 : At K "ties_within" s_ties_within f3)
    (a4 : At K "steps_behind" s_steps_behind f4)
    (a5 : At K "face_from" s_face_from f5)
    (a6 : At K "faces_of" s_faces_of f6)
    (a7 : At K "are_flat_faces" s_are_flat_faces f7)
    (a8 : At K "are_flat" s_are_flat f8)
    (a9 : At K "_law_mixed" s_l_mixed f9)
    (a10 : At K "_law_deck" s_l_deck f10)
    (a11 : At K "_law_take" s_l_take f11)
    (a12 : At K "_law_corners" s_l_corners f12)
    (a13 : At K "_law_grown" s_l_grown f13)
    (a14 : At K "_law_turned" s_l_turned f14)
    (a15 : At K "_law_web" s_l_web f15)
    (a16 : At K "_law_crossed" s_l_crossed f16)
    (a17 : At K "_law_behind" s_l_behind f17)
    (a18 : At K "_law_part_of" s_l_part_of f18)
    (a19 : At K "_law_is_flat" s_l_is_flat f19)
    (a20 : At K "_law_mingled" s_l_mingled f20)
    (a21 : At K "_law_right" s_l_right f21)
    (a22 : At K "law" s_law f22)
    (z0 : PySem.W.nsIn K mainGlobals "len" = some none)
    (z1 : PySem.W.nsIn K mainGlobals "int" = some none)
    (z2 : PySem.W.nsIn K mainGlobals "bool" = some none)
    (z3 : PySem.W.nsIn K mainGlobals "str" = some none)
    (z4 : PySem.W.nsIn K mainGlobals "list" = some none)
    (z5 : PySem.W.nsIn K mainGlobals "tuple" = some none)
    (z6 : PySem.W.nsIn K mainGlobals "range" = some none)
    (z7 : PySem.W.nsIn K mainGlobals "isinstance" = some none)
    (z8 : PySem.W.nsIn K mainGlobals "sum" = some none)
    (z9 : PySem.W.nsIn K mainGlobals "enumerate" = some none)
    (z10 : PySem.W.nsIn K mainGlobals "min" = some none)
    (z11 : PySem.W.nsIn K mainGlobals "sorted" = some none)
    (z12 : PySem.W.nsIn K mainGlobals "zip" = some none)
     :
    LamX.LawAtS l w K CX0 6 63 "_law_script" mg fa h := by
  have efa := hfa.symm.trans (PySem.W.mg_of X G a22.ns)
  cases efa
  have M : Free mg := ⟨PySem.W.mg_none_of X G z0, PySem.W.mg_none_of X G z1, PySem.W.mg_none_of X G z2, PySem.W.mg_none_of X G z3, PySem.W.mg_none_of X G z4, PySem.W.mg_none_of X G z5, PySem.W.mg_none_of X G z6, PySem.W.mg_none_of X G z7, PySem.W.mg_none_of X G z8⟩
  have m_enumerate := PySem.W.mg_none_of X G z9
  have m_min := PySem.W.mg_none_of X G z10
  have m_sorted := PySem.W.mg_none_of X G z11
  have m_zip := PySem.W.mg_none_of X G z12
  obtain ⟨d0, F0⟩ := a0.fn
  obtain ⟨d1, F1⟩ := a1.fn
  obtain ⟨d2, F2⟩ := a2.fn
  obtain ⟨d3, F3⟩ := a3.fn
  obtain ⟨d4, F4⟩ := a4.fn
  obtain ⟨d5, F5⟩ := a5.fn
  obtain ⟨d6, F6⟩ := a6.fn
  obtain ⟨d7, F7⟩ := a7.fn
  obtain ⟨d8, F8⟩ := a8.fn
  obtain ⟨d9, F9⟩ := a9.fn
  obtain ⟨d10, F10⟩ := a10.fn
  obtain ⟨d11, F11⟩ := a11.fn
  obtain ⟨d12, F12⟩ := a12.fn
  obtain ⟨d13, F13⟩ := a13.fn
  obtain ⟨d14, F14⟩ := a14.fn
  obtain ⟨d15, F15⟩ := a15.fn
  obtain ⟨d16, F16⟩ := a16.fn
  obtain ⟨d17, F17⟩ := a17.fn
  obtain ⟨d18, F18⟩ := a18.fn
  obtain ⟨d19, F19⟩ := a19.fn
  obtain ⟨d20, F20⟩ := a20.fn
  obtain ⟨d21, F21⟩ := a21.fn
  obtain ⟨d22, F22⟩ := a22.fn
  have g0 := PySem.W.mg_of X G a0.ns
  have g1 := PySem.W.mg_of X G a1.ns
  have g2 := PySem.W.mg_of X G a2.ns
  have g3 := PySem.W.mg_of X G a3.ns
  have g4 := PySem.W.mg_of X G a4.ns
  have g5 := PySem.W.mg_of X G a5.ns
  have g6 := PySem.W.mg_of X G a6.ns
  have g7 := PySem.W.mg_of X G a7.ns
  have g8 := PySem.W.mg_of X G a8.ns
  have g9 := PySem.W.mg_of X G a9.ns
  have g10 := PySem.W.mg_of X G a10.ns
  have g11 := PySem.W.mg_of X G a11.ns
  have g12 := PySem.W.mg_of X G a12.ns
  have g13 := PySem.W.mg_of X G a13.ns
  have g14 := PySem.W.mg_of X G a14.ns
  have g15 := PySem.W.mg_of X G a15.ns
  have g16 := PySem.W.mg_of X G a16.ns
  have g17 := PySem.W.mg_of X G a17.ns
  have g18 := PySem.W.mg_of X G a18.ns
  have g19 := PySem.W.mg_of X G a19.ns
  have g20 := PySem.W.mg_of X G a20.ns
  have g21 := PySem.W.mg_of X G a21.ns
  have hb0 : ∀ (s : Shared) (u : Value), BindsTo s d22 ⟨[u], []⟩ [("_law_script", u)] := by
    obtain ⟨oc, od, kV, doc, pm, an, cdv, ct, osl, rfl, _⟩ := F22.ex
    exact fun s u => .of_eq rfl
  refine ⟨d22, [], spLaw K, (fun p hp => by simp at hp), (fun p hp => by simp at hp), (fun p hp => by simp at hp), hb0, fun H a ns hl _ hT hS => ⟨a, ns, rfl, hS, hl, fun _ => rfl⟩, fun base KB GB TB => ?_⟩
  have D0 : Df l.prog w K mg base 1 "neighbours" ["web"] spNeighbours := .of g0 F0 (ok_neighbours F0 M) fun _ _ _ _ _ _ us hl => match us, hl with | [_], _ => rfl
  have D1 : Df l.prog w K mg base 1 "sides_from" ["start", "around"] spSidesFrom := .of g1 F1 (ok_sides_from F1 M) fun _ _ _ _ _ _ us hl => match us, hl with | [_, _], _ => rfl
  have D2 : Df l.prog w K mg base 2 "parts_of" ["web"] spPartsOf := .of g2 F2 (ok_parts_of F2 M m_sorted D0 D1) fun _ _ _ _ _ _ us hl => match us, hl with | [_], _ => rfl
  have D3 : Df l.prog w K mg base 1 "ties_within" ["web", "part"] spTiesWithin := .of g3 F3 (ok_ties_within F3 M m_enumerate) fun _ _ _ _ _ _ us hl => match us, hl with | [_, _], _ => rfl
  have D4 : Df l.prog w K mg base 1 "steps_behind" ["web", "orders"] spSteps := .of g4 F4 (ok_steps_behind F4 m_enumerate m_zip) fun _ _ _ _ _ _ us hl => match us, hl with | [_, _], _ => rfl
  have D5 : Df l.prog w K mg base 1 "face_from" ["first", "behind"] spFace := .of g5 F5 (ok_face_from F5 M) fun _ _ _ _ _ _ us hl => match us, hl with | [_, _], _ => rfl
  have D6 : Df l.prog w K mg base 2 "faces_of" ["web", "orders"] spFaces := .of g6 F6 (ok_faces_of F6 M m_sorted D4 D5) fun _ _ _ _ _ _ us hl => match us, hl with | [_, _], _ => rfl
  have D7 : Df l.prog w K mg base 3 "are_flat_faces" ["web", "faces"] spFlatF := .of g7 F7 (ok_are_flat_faces F7 M D2 D3) fun _ _ _ _ _ _ us hl => match us, hl with | [_, _], _ => rfl
  have D8 : Df l.prog w K mg base 4 "are_flat" ["web", "orders"] spAreFlat := .of g8 F8 (ok_are_flat F8 D6 D7) fun _ _ _ _ _ _ us hl => match us, hl with | [_, _], _ => rfl
  have D9 : Df l.prog w K mg base 1 "_law_mixed" ["_law_number"] spMixed := .of g9 F9 (ok_l_mixed F9) fun _ _ _ _ _ _ us hl => match us, hl with | [_], _ => rfl
  have D10 : Df l.prog w K mg base 2 "_law_deck" ["_law_script"] (spDeckF K) := .of g10 F10 (ok_l_deck F10 M D9) fun _ _ _ _ _ _ us hl => match us, hl with | [_], _ => rfl
  have D11 : Df l.prog w K mg base 2 "_law_take" ["_law_deck_here", "_law_most"] spTake := .of g11 F11 (ok_l_take F11 D9) fun _ _ _ _ _ _ us hl => match us, hl with | [_, _], _ => rfl
  have D12 : Df l.prog w K mg base 1 "_law_corners" ["_law_ties", "_law_orders", "_law_place", "_law_at"] spCorners := .of g12 F12 (ok_l_corners F12 M) fun _ _ _ _ _ _ us hl => match us, hl with | [_, _, _, _], _ => rfl
  have D13 : Df l.prog w K mg base 3 "_law_grown" ["_law_deck_here", "_law_most", "_law_many_ties"] spGrown := .of g13 F13 (ok_l_grown F13 M D11 D12) fun _ _ _ _ _ _ us hl => match us, hl with | [_, _, _], _ => rfl
  have D14 : Df l.prog w K mg base 3 "_law_turned" ["_law_deck_here", "_law_orders"] spTurned := .of g14 F14 (ok_l_turned F14 M D11) fun _ _ _ _ _ _ us hl => match us, hl with | [_, _], _ => rfl
  have D15 : Df l.prog w K mg base 3 "_law_web" ["_law_deck_here", "_law_ties", "_law_places"] spWebF := .of g15 F15 (ok_l_web F15 M D11) fun _ _ _ _ _ _ us hl => match us, hl with | [_, _, _], _ => rfl
  have D16 : Df l.prog w K mg base 3 "_law_crossed" ["_law_deck_here", "_law_orders"] spCrossed := .of g16 F16 (ok_l_crossed F16 M D11) fun _ _ _ _ _ _ us hl => match us, hl with | [_, _], _ => rfl
  have D17 : Df l.prog w K mg base 1 "_law_behind" ["_law_web_here", "_law_orders", "_law_step"] spBehindL := .of g17 F17 (ok_l_behind F17 M) fun _ _ _ _ _ _ us hl => match us, hl with | [_, _, _], _ => rfl
  have D18 : Df l.prog w K mg base 1 "_law_part_of" ["_law_web_here"] spPartOfL := .of g18 F18 (ok_l_part_of F18 M m_min) fun _ _ _ _ _ _ us hl => match us, hl with | [_], _ => rfl
  have D19 : Df l.prog w K mg base 2 "_law_is_flat" ["_law_web_here", "_law_orders"] spIsFlat := .of g19 F19 (ok_l_is_flat F19 M m_enumerate D18 D17) fun _ _ _ _ _ _ us hl => match us, hl with | [_, _], _ => rfl
  have D20 : Df l.prog w K mg base 3 "_law_mingled" ["_law_deck_here", "_law_orders"] spMingled := .of g20 F20 (ok_l_mingled F20 M D11) fun _ _ _ _ _ _ us hl => match us, hl with | [_, _], _ => rfl
  have D21 : Df l.prog w K mg base 5 "_law_right" ["_law_web_here", "_law_orders", "_law_due"] spRight53 := .of g21 F21 (ok_l_right F21 M D8) fun _ _ _ _ _ _ us hl => match us, hl with | [_, _, _], _ => rfl
  exact ok_law F22 M D10 D11 D13 D15 D14 D21 D16 D20 D19
end
end FF
open PySem PySem.W PyProof.Rows
set_option maxRecDepth 100000 in
set_option maxHeartbeats 0 in
theorem PySem.Challenge.cw_friendfoe_k53_flat_orders_holds : PySem.Challenge.rw_friendfoe_k53_flat_orders.Holds := by
  w_on; o_law; k_head; (case hw => w_witness2)
  k_fill
  refine FF.walk_tabs (l := PySem.Challenge.rw_friendfoe_k53_flat_orders) (n := 63) (k := 6) (x := "_law_script") rfl (by decide) rfl ⟨rfl, by decide, by decide⟩ (fun w h Y => PySem.W.kIn_of Y) ?F
  case F =>
    intro w mg fa h KX G hmg tabs
    refine' FF.law_at KX G hmg  ?a0 ?a1 ?a2 ?a3 ?a4 ?a5 ?a6 ?a7 ?a8 ?a9 ?a10 ?a11 ?a12 ?a13 ?a14 ?a15 ?a16 ?a17 ?a18 ?a19 ?a20 ?a21 ?a22 ?z0 ?z1 ?z2 ?z3 ?z4 ?z5 ?z6 ?z7 ?z8 ?z9 ?z10 ?z11 ?z12 
    (case a0 => refine' FF.at_mk ?p1 ?p2 ?p3 ?p4; (case p1 => k_is); (case p2 => k_is); (case p3 => k_is); (case p4 => k_is))
    (case a1 => refine' FF.at_mk ?p1 ?p2 ?p3 ?p4; (case p1 => k_is); (case p2 => k_is); (case p3 => k_is); (case p4 => k_is))
    (case a2 => refine' FF.at_mk ?p1 ?p2 ?p3 ?p4; (case p1 => k_is); (case p2 => k_is); (case p3 => k_is); (case p4 => k_is))
    (case a3 => refine' FF.at_mk ?p1 ?p2 ?p3 ?p4; (case p1 => k_is); (case p2 => k_is); (case p3 => k_is); (case p4 => k_is))
    (case a4 => refine' FF.at_mk ?p1 ?p2 ?p3 ?p4; (case p1 => k_is); (case p2 => k_is); (case p3 => k_is); (case p4 => k_is))
    (case a5 => refine' FF.at_mk ?p1 ?p2 ?p3 ?p4; (case p1 => k_is); (case p2 => k_is); (case p3 => k_is); (case p4 => k_is))
    (case a6 => refine' FF.at_mk ?p1 ?p2 ?p3 ?p4; (case p1 => k_is); (case p2 => k_is); (case p3 => k_is); (case p4 => k_is))
    (case a7 => refine' FF.at_mk ?p1 ?p2 ?p3 ?p4; (case p1 => k_is); (case p2 => k_is); (case p3 => k_is); (case p4 => k_is))
    (case a8 => refine' FF.at_mk ?p1 ?p2 ?p3 ?p4; (case p1 => k_is); (case p2 => k_is); (case p3 => k_is); (case p4 => k_is))
    (case a9 => refine' FF.at_mk ?p1 ?p2 ?p3 ?p4; (case p1 => k_is); (case p2 => k_is); (case p3 => k_is); (case p4 => k_is))
    (case a10 => refine' FF.at_mk ?p1 ?p2 ?p3 ?p4; (case p1 => k_is); (case p2 => k_is); (case p3 => k_is); (case p4 => k_is))
    (case a11 => refine' FF.at_mk ?p1 ?p2 ?p3 ?p4; (case p1 => k_is); (case p2 => k_is); (case p3 => k_is); (case p4 => k_is))
    (case a12 => refine' FF.at_mk ?p1 ?p2 ?p3 ?p4; (case p1 => k_is); (case p2 => k_is); (case p3 => k_is); (case p4 => k_is))
    (case a13 => refine' FF.at_mk ?p1 ?p2 ?p3 ?p4; (case p1 => k_is); (case p2 => k_is); (case p3 => k_is); (case p4 => k_is))
    (case a14 => refine' FF.at_mk ?p1 ?p2 ?p3 ?p4; (case p1 => k_is); (case p2 => k_is); (case p3 => k_is); (case p4 => k_is))
    (case a15 => refine' FF.at_mk ?p1 ?p2 ?p3 ?p4; (case p1 => k_is); (case p2 => k_is); (case p3 => k_is); (case p4 => k_is))
    (case a16 => refine' FF.at_mk ?p1 ?p2 ?p3 ?p4; (case p1 => k_is); (case p2 => k_is); (case p3 => k_is); (case p4 => k_is))
    (case a17 => refine' FF.at_mk ?p1 ?p2 ?p3 ?p4; (case p1 => k_is); (case p2 => k_is); (case p3 => k_is); (case p4 => k_is))
    (case a18 => refine' FF.at_mk ?p1 ?p2 ?p3 ?p4; (case p1 => k_is); (case p2 => k_is); (case p3 => k_is); (case p4 => k_is))
    (case a19 => refine' FF.at_mk ?p1 ?p2 ?p3 ?p4; (case p1 => k_is); (case p2 => k_is); (case p3 => k_is); (case p4 => k_is))
    (case a20 => refine' FF.at_mk ?p1 ?p2 ?p3 ?p4; (case p1 => k_is); (case p2 => k_is); (case p3 => k_is); (case p4 => k_is))
    (case a21 => refine' FF.at_mk ?p1 ?p2 ?p3 ?p4; (case p1 => k_is); (case p2 => k_is); (case p3 => k_is); (case p4 => k_is))
    (case a22 => refine' FF.at_mk ?p1 ?p2 ?p3 ?p4; (case p1 => k_is); (case p2 => k_is); (case p3 => k_is); (case p4 => k_is))
    (case z0 => k_is)
    (case z1 => k_is)
    (case z2 => k_is)
    (case z3 => k_is)
    (case z4 => k_is)
    (case z5 => k_is)
    (case z6 => k_is)
    (case z7 => k_is)
    (case z8 => k_is)
    (case z9 => k_is)
    (case z10 => k_is)
    (case z11 => k_is)
    (case z12 => k_is)
