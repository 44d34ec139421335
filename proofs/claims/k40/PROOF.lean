import PyProof.Rows.All
import Wide.All
import OpenK.AllK
import Wide.FinOn
import HandS.ForMost
import HandS.IsInst
import HandS.TupAny
import HandS.TupLe
import HandS.Wide
import HandS.Style
import HandS.SortInts
import HandS.Conv
import HandS.More
import HandS.EndTab
import HandS.EndOwn
import HandS.AnyAll
import HandS.GenOver
import HandS.Evl
import HandS.Walk
import HandS.NoneIn
import HandS.Zip
import HandS.DictComp
import HandS.SetFor
import KE.GoesEnum
import HandS.TupMul
import HandS.Strs
import KE.DataMinMax
import HandS.ForExc
import HandS.ExcIs
import HandS.SetKeys
import KE.DatumOrd
import HandS.Remove
import HandS.SortRule
import KE.KDictCopyH
import KE.KDictSum
import HandS.Defaults
import HandS.Star
import PySem.Challenge.RW_friendfoe_k40_too_many_places
set_option Elab.async false
set_option linter.all false
set_option maxRecDepth 100000
namespace FF
open PySem PySem.Spec PyProof.Rows L2
/-! ### heaps: what is kept -/
/-- all that is tracked, but at d and c, is as it was -/
def Kp (d c : Addr) (H H' : Hp) : Prop := ∀ b o, b ≠ d → b ≠ c → H b = some o → H' b = some o
theorem Kp.refl {d c : Addr} {H : Hp} : Kp d c H H := fun _ _ _ _ h => h
theorem Kp.trans {d c : Addr} {H H1 H2 : Hp} (a : Kp d c H H1) (b : Kp d c H1 H2) : Kp d c H H2 := fun x o h1 h2 h => b x o h1 h2 (a x o h1 h2 h)
theorem Kp.at_d {d c : Addr} {H : Hp} {o : HO} : Kp d c H (upd H d o) := fun b u h1 _ h => by rw [upd_ne h1]; exact h
theorem Kp.at_c {d c : Addr} {H : Hp} {o : HO} : Kp d c H (upd H c o) := fun b u _ h2 h => by rw [upd_ne h2]; exact h
theorem Kp.new {d c p : Addr} {H : Hp} {o : HO} (hp : H p = none) : Kp d c H (upd H p o) := fun b u _ _ h => by rw [upd_ne (ne_of_none h hp)]; exact h
theorem same_new {H : Hp} {p : Addr} {o : HO} (h : H p = none) : Same H (upd H p o) := fun b x e => by
  rw [upd_ne (ne_of_none e h)]
  exact e
theorem Same.kp {d c : Addr} {H H' : Hp} (s : Same H H') : Kp d c H H' := fun b o _ _ h => s b o h
/-! ### defs as they are called -/
def Df (P : Program) (w : World) (K : PySem.W.Frag) (mg : Str → Option Value) (base : Heap) (k : Nat) (x : Str) (ps : List Str) (sp : Sp) : Prop :=
  ∃ (f : Addr) (fd : FuncData), FnOk P w K mg base CX0 k f fd ps sp ∧ mg x = some (.ref f) ∧ PySem.W.keepIn K (.ref f) = true ∧ Binds K fd ps []
/-- built-in names that the module has not taken -/
structure Free (mg : Str → Option Value) : Prop where
  len : mg "len" = none
  int : mg "int" = none
  bool : mg "bool" = none
  str : mg "str" = none
  list : mg "list" = none
  tuple : mg "tuple" = none
  range : mg "range" = none
  isinstance : mg "isinstance" = none
  sum : mg "sum" = none
theorem mod_rng {a m : Int} (h : 0 < m) : 0 ≤ a % m ∧ a % m < m := ⟨Int.emod_nonneg a (by omega), Int.emod_lt_of_pos a h⟩
/-! ### the deck: a dict -/
def dkv (c : Addr) (n st : Int) : List (Key × V) := [(Sum.inr "cells", V.ref c), (Sum.inr "at", .int n), (Sum.inr "seed", .int st)]
structure Deck (H : Hp) (d c : Addr) : Prop where
  ex : ∃ (cells : List Int) (st n : Int), H d = some (.dK (dkv c n st)) ∧ H c = some (.lst (cells.map V.int)) ∧ cells.length ≤ 63 ∧ 0 ≤ n ∧ n ≤ cells.length ∧ 0 ≤ st ∧ st < 2147483647
theorem Deck.ne {H : Hp} {d c : Addr} (h : Deck H d c) : d ≠ c := by
  obtain ⟨cells, st, n, h1, h2, _⟩ := h
  exact ne_of h1 h2 (by intro z; cases z)
theorem Deck.same {H H' : Hp} {d c : Addr} (h : Deck H d c) (s : Same H H') : Deck H' d c := by
  obtain ⟨cells, st, n, h1, h2, h3⟩ := h
  exact ⟨cells, st, n, s _ _ h1, s _ _ h2, h3⟩
theorem dkv_at (c : Addr) (n st : Int) : valV (dkv c n st) (Sum.inr "at") = some (.int n) := rfl
theorem dkv_cells (c : Addr) (n st : Int) : valV (dkv c n st) (Sum.inr "cells") = some (.ref c) := rfl
theorem dkv_seed (c : Addr) (n st : Int) : valV (dkv c n st) (Sum.inr "seed") = some (.int st) := rfl
theorem dkv_putAt (c : Addr) (n st m : Int) : putK (dkv c n st) (Sum.inr "at") (.int m) = dkv c m st := rfl
theorem dkv_putSeed (c : Addr) (n st m : Int) : putK (dkv c n st) (Sum.inr "seed") (.int m) = dkv c n m := rfl
theorem dkv_new (c : Addr) (n st : Int) : mergeK [] (dkv c n st) = dkv c n st := rfl
/-- a draw below m: any number from 0 on, less than m -/
def spDraw : Sp := fun vs H Q _ => ∃ (d c : Addr) (m : Int), vs = [.ref d, .int m] ∧ Deck H d c ∧ 0 < m ∧ m.natAbs < 2 ^ 120 ∧
  ∀ v H', 0 ≤ v → v < m → Deck H' d c → Kp d c H H' → Q (.int v) H'
/-! ### {**d, k: v} -/
section
open Sem (wp)
variable {prog : Program} {w : World} {K : Type} [DecidableEq K] {knd : KeyKind prog w K} {A : Around} {E : Value → Shared → Prop} {s : Shared}
theorem wpAny_dictPut {d : Addr} {kvs : List (K × Value)} {k : K} {key v : Value} {Q : Unit → Shared → Prop} (hkey : knd.is k key = true) (hm : s.heap.DictOf knd d kvs)
    (hQ : ∀ h', h'.DictOf knd d (stored kvs k v) → Heap.SameBut d s.heap h' → Q () { s with heap := h' })
    (hsz : kvs.length ≤ sizeLine) :
    wpAny (model prog w) A (dictPut d (knd.hash k) key v) Q E s := by
  obtain ⟨o, es, ep, ho, hc, hd, hk, hp, hn⟩ := hm
  have hes : es.size ≤ sizeLine := by have e1 := hp.length; have e2 : es.toList.length = es.size := by simp
                                      omega
  unfold dictPut
  refine wpAny_bind (wpAny_dictFind_of hkey ho hd hk ?_)
  have hidx : (es.findIdx? fun e => knd.is k e.key) = kvs.findIdx? fun kv => decide (kv.1 = k) := by
    rw [← hp.findIdx k]; obtain ⟨l⟩ := es; simp
  cases hi : es.findIdx? fun e => knd.is k e.key with
  | some i =>
    refine wpAny_updateDict ho hd (hQ _ ⟨_, _, ep, Heap.get?_update_self _ ho (Obj.isFreed_of_dict (Obj.data_mapDict hd _)),
      hc.mapDict _, Obj.data_mapDict hd _, hk.modify _ _, ?_, ?_⟩ (Heap.SameBut.update ..))
    · rw [stored, if_pos (any_of_findIdx_some (hidx ▸ hi))]
      have hl : (es.toList.findIdx? fun e => knd.is k e.key) = some i := by rw [← hi]; obtain ⟨l⟩ := es; simp
      have := hp.modify hn hl v
      obtain ⟨l⟩ := es
      simpa using this
    · rw [stored, if_pos (any_of_findIdx_some (hidx ▸ hi)), keys_map_store]; exact hn
  | none =>
    have hnot : k ∉ kvs.map (·.1) := not_mem_of_findIdx_none (hidx ▸ hi)
    have hany : ¬ (kvs.any fun kv => decide (kv.1 = k)) = true := by
      rw [List.any_eq_true]; rintro ⟨kv, hkv, he⟩
      exact hnot (List.mem_map.mpr ⟨kv, hkv, of_decide_eq_true he⟩)
    refine wpAny_updateDictKeys (hz := hes) ho hd (hQ _ ⟨_, _, ep + 1, Heap.get?_update_self _ ho (Obj.isFreed_of_dict (Obj.data_mapDictKeys hd _)),
      hc.mapDictKeys _, Obj.data_mapDictKeys hd _, hk.push hkey _, ?_, ?_⟩ (Heap.SameBut.update ..))
    · rw [stored, if_neg hany]
      have := hp.append hkey (knd.hash k) v
      obtain ⟨l⟩ := es
      simpa using this
    · rw [stored, if_neg hany, List.map_append, List.nodup_append]
      refine ⟨hn, by simp, ?_⟩
      intro a ha b hb
      simp only [List.map_cons, List.map_nil, List.mem_singleton] at hb
      subst hb
      exact fun e => hnot (e ▸ ha)
theorem wpAny_mergeMapping {d o : Addr} {kvs more : List (K × Value)} {Q : Unit → Shared → Prop} (hdo : d ≠ o) (hoS : (o == sysModules) = false)
    (hd : s.heap.DictOf knd d kvs) (ho : s.heap.DictOf knd o more)
    (hQ : ∀ h', h'.DictOf knd d (merged kvs more) → h'.DictOf knd o more → Heap.SameBut d s.heap h' → Q () { s with heap := h' })
    (hsz : kvs.length + more.length ≤ sizeLine) :
    wpAny (model prog w) A (mergeMapping d (.ref o) false) Q E s := by
  obtain ⟨od, esd, epd, hod, hcd, hdd, hkd, hpd, hnd⟩ := id hd
  obtain ⟨oo, eso, epo, hoo, hco, hdo', hko, hpo, hno⟩ := id ho
  have hlen : more.length = eso.size := by rw [← hpo.length]; simp
  unfold mergeMapping
  refine wpAny_bind (wpAny_isInstance ho.typeIs isSubtype_dict_dict ?_)
  dsimp only
  rw [if_pos rfl]
  refine wpAny_bind (wpAny_specialOf ho.typeIs F.slot_dict_iter.lookup ?_)
  rw [show (some (Value.builtin "dict.__iter__") == some (Value.builtin "dict.__iter__")) = true from beq_self_eq_true _]
  refine wpAny_bind (wpAny_pure ?_)
  dsimp only
  rw [if_neg (by rw [hoS]; exact Bool.false_ne_true)]
  refine wpAny_bind (wpAny_dictEntries hod hdd ?_)
  have loopE : (forIn eso PUnit.unit fun (e : DictEntry) (_ : PUnit) => (match e.key with
      | Value.ref a => do
        let __do_lift ← specialOf e.key (Str.ofString "__eq__")
        if (__do_lift != some (Value.builtin "object.__eq__")) = true then
            if (Array.filter (fun x => x.hash == e.hash) eso).size > 1 then do
              (unsupported "dict.merge-into-an-empty-dict:keys-of-equal-hash" : Sem PUnit)
              pure (ForInStep.yield PUnit.unit)
            else pure (ForInStep.yield PUnit.unit)
          else pure (ForInStep.yield PUnit.unit)
      | x => pure (ForInStep.yield PUnit.unit) : Sem (ForInStep PUnit))) = pure PUnit.unit := by
    rw [← Array.forIn_toList]
    refine forIn_yield_id _ fun e he c => ?_
    obtain ⟨k, hkey, _⟩ := hko e (Array.mem_toList_iff.mp he)
    have bv := knd.byValue k _ hkey
    cases hk : e.key with
    | ref a => rw [hk] at bv; cases bv
    | _ => rfl
  suffices rest : wpAny (model prog w) A (do
      let l ← dictEntries o
      let epoch ← dictEpoch o
      forIn (List.range l.size) PUnit.unit fun i (_ : PUnit) => (do
        let l' ← dictEntries o
        match l'[i]? with
          | some e => do
            holding [e.key, e.val] (dictPut d e.hash e.key e.val)
            let ep' ← dictEpoch o
            if (ep' != epoch) = true then do
                (unsupported "dict.changed-during-merge" : Sem PUnit)
                pure (ForInStep.yield PUnit.unit)
              else pure (ForInStep.yield PUnit.unit)
          | _ => do
            (unsupported "dict.changed-during-merge" : Sem PUnit)
            pure (ForInStep.yield PUnit.unit) : Sem (ForInStep PUnit))
      pure ()) Q E s by
    split
    · refine wpAny_bind (wpAny_dictEntries hoo hdo' ?_)
      refine wpAny_bind (wpAny_of_eq loopE ?_)
      exact rest
    · exact rest
  refine wpAny_bind (wpAny_dictEntries hoo hdo' ?_)
  refine wpAny_bind (wpAny_dictEpoch hoo hdo' ?_)
  refine wpAny_bind ?_
  refine wpAny_forIn_list _
    (fun rest _ s' => ∃ h' i, s' = { s with heap := h' } ∧ rest = List.range' i (eso.size - i) ∧ i ≤ eso.size ∧ h'.DictOf knd d (merged kvs (more.take i)) ∧ h'.get? o = some oo ∧ Heap.SameBut d s.heap h')
    _ ?_ ?_ _ _ ⟨s.heap, 0, rfl, by rw [List.range_eq_range', Nat.sub_zero], Nat.zero_le _, by simpa [merged] using hd, hoo, Heap.SameBut.refl _ _⟩
  · rintro x rest b s' ⟨h', i, rfl, hr, hi, hd', hoo', hs'⟩
    have hlt : i < eso.size := by
      rcases Nat.lt_or_ge i eso.size with h | h
      · exact h
      · rw [Nat.sub_eq_zero_of_le h] at hr; simp at hr
    obtain ⟨rfl, hrest⟩ : x = i ∧ rest = List.range' (i + 1) (eso.size - (i + 1)) := by
      have e : eso.size - i = (eso.size - (i + 1)) + 1 := by omega
      rw [e, List.range'_succ] at hr
      injection hr with h1 h2
      exact ⟨h1, h2⟩
    refine wpAny_bind (wpAny_dictEntries hoo' hdo' ?_)
    rw [Array.getElem?_eq_getElem hlt]
    obtain ⟨kv, hkv⟩ : ∃ kv, more[x]? = some kv := ⟨more[x]'(by rw [hlen]; exact hlt), List.getElem?_eq_getElem _⟩
    obtain ⟨k, v⟩ := kv
    obtain ⟨hkey, hval⟩ := hpo.get? (e := eso[x]) (by simp [hlt]) hkv
    obtain ⟨k', hkey', hhash⟩ := hko eso[x] (Array.getElem_mem hlt)
    obtain rfl : k' = k := knd.inj _ _ _ hkey' hkey
    show wpAny _ _ (holding [eso[x].key, eso[x].val] (dictPut d eso[x].hash eso[x].key eso[x].val) >>= _) _ _ _
    rw [hhash, hval]
    have hmx : (merged kvs (more.take x)).length ≤ sizeLine := by
      have e1 := merged_length_le kvs (more.take x)
      have e2 : (more.take x).length ≤ more.length := by rw [List.length_take]; omega
      omega
    refine wpAny_bind (wpAny_holding (wpAny_dictPut (hsz := hmx) hkey hd' fun h'' hd'' hs'' => ?_))
    have hoo'' : h''.get? o = some oo := (hs''.2 o (Ne.symm hdo)).trans hoo'
    refine wpAny_bind (wpAny_dictEpoch hoo'' hdo' ?_)
    rw [if_neg (by simp)]
    exact wpAny_pure ⟨h'', x + 1, rfl, hrest, hlt, by rw [merged_take_succ kvs more x (k', v) hkv]; exact hd'', hoo'', hs'.trans hs''⟩
  · rintro b s' ⟨h', i, rfl, hr, hi, hd', hoo', hs'⟩
    have hin : i = eso.size := by
      rcases Nat.lt_or_ge i eso.size with h | h
      · have e : eso.size - i = (eso.size - (i + 1)) + 1 := by omega
        rw [e, List.range'_succ] at hr; exact nomatch hr
      · exact Nat.le_antisymm hi h
    refine wpAny_pure (hQ h' ?_ ⟨oo, eso, epo, hoo', hco, hdo', hko, hpo, hno⟩ hs')
    rw [hin, ← hlen, List.take_length] at hd'; exact hd'
end
section
open Sem (wp)
variable {prog : Program} {w : World} {K : Type} [DecidableEq K] {knd : KeyKind prog w K} {A : Around} {E : Value → Shared → Prop} {s : Shared}
/-- the walk of {**m, k: v} -/
theorem wpAny_dstar {mt kt vt : Sem Value} {Q : Value → Shared → Prop}
    (h : wpAny (model prog w) A mt (fun m s1 => ∃ o more, m = .ref o ∧ (o == sysModules) = false ∧ s.heap.objs.size ≠ o ∧ s1.heap.DictOf knd o more ∧ s1.heap.DictOf knd s.heap.objs.size [] ∧ more.length ≤ sizeLine ∧
      ∀ h1, h1.DictOf knd s.heap.objs.size (merged [] more) → Heap.SameBut s.heap.objs.size s1.heap h1 →
        wpAny (model prog w) A kt (fun kv s2 => wpAny (model prog w) A vt (fun vv s3 => ∃ k acc, knd.is k kv = true ∧ s3.heap.DictOf knd s.heap.objs.size acc ∧ acc.length + 1 ≤ sizeLine ∧ s3.heap.DictOf knd h1.objs.size [] ∧ h1.objs.size ≠ s.heap.objs.size ∧ (h1.objs.size == sysModules) = false ∧
          ∀ h4, h4.DictOf knd h1.objs.size [(k, vv)] → Heap.SameBut h1.objs.size s3.heap h4 → ∀ h5, h5.DictOf knd s.heap.objs.size (stored acc k vv) → Heap.SameBut s.heap.objs.size h4 h5 → Q (.ref s.heap.objs.size) { s3 with heap := h5, toks := s3.toks + 1 }) E s2) E
          { s1 with heap := h1.push { cls := .type "dict", data := .dict #[] } }) E { s with heap := s.heap.push { cls := .type "dict", data := .dict #[] } }) :
    wpAny (model prog w) A (dictDisplay [(none, mt), (some kt, vt)]) Q E s := by
  unfold dictDisplay
  dsimp only
  rw [List.forIn_cons]
  refine wpAny_bind (wpAny_bind ?_)
  dsimp only
  refine wpAny_bind (wpAny_of_eq (if_pos rfl) ?_)
  dsimp only
  refine wpAny_bind (wpAny_alloc ?_)
  refine wpAny_bind (wpAny_holding (wpAny_mono h (fun m s1 h1 => ?_) fun _ _ e => e))
  obtain ⟨o, more, rfl, hoS, hdo, ho, hd, hsz, h1⟩ := h1
  refine wpAny_bind (wpAny_onRaise (wpAny_tryCatch (wpAny_onRaise (wpAny_holding ?_))))
  refine wpAny_mergeMapping hdo hoS hd ho (fun h' hd' ho' hs' => ?_) (by rw [List.length_nil, Nat.zero_add]; exact hsz)
  refine wpAny_pure ?_
  dsimp only
  rw [List.forIn_cons]
  refine wpAny_bind ?_
  dsimp only
  refine wpAny_of_eq (if_neg (by simp)) ?_
  dsimp only
  rw [List.forIn_nil]
  refine wpAny_pure ?_

  refine wpAny_bind ?_
  rw [if_neg (by exact Bool.false_ne_true)]
  dsimp only
  refine wpAny_bind (wpAny_holding (wpAny_subDict (knd := knd) (by show 1 ≤ 15; decide) ?_))
  refine evalPairs_cons (wpAny_mono (h1 h' hd' hs') (fun kv s2 h2 => wpAny_mono h2 (fun vv s3 h3 => evalPairs_nil ?_) fun _ _ e => e) fun _ _ e => e)
  obtain ⟨k, acc, hkey, hda, hacc, hdn, hne, hnS, hQ⟩ := h3
  refine ⟨[(k, vv)], ⟨hkey, rfl, trivial⟩, hdn, fun h4 hm4 hs4 => ?_⟩
  refine wpAny_bind (wpAny_onRaise (wpAny_holding ?_))
  have e1 : merged [] [(k, vv)] = [(k, vv)] := by simp [merged, stored]
  rw [e1] at hm4
  have hda4 : h4.DictOf knd s.heap.objs.size acc := hda.sameBut hs4 (Ne.symm hne)
  refine wpAny_mergeMapping (Ne.symm hne) hnS hda4 hm4 (fun h5 hd5 ho5 hs5 => ?_) (by rw [List.length_singleton]; exact hacc)
  refine wpAny_pure (wpAny_pure ?_)
  have e2 : merged acc [(k, vv)] = stored acc k vv := by simp [merged]
  rw [e2] at hd5
  exact hQ h4 hm4 hs4 h5 hd5 hs5
end
/-- {**d, k: v}: d a dict of ints and texts -/
def tDStar (td tk tv : L2.TE) : L2.TE := fun σ H Q => ∀ p, H p = none → td σ (upd H p (.dK [])) fun m H1 => ∃ a kvs, m = .ref a ∧ H1 a = some (.dK kvs) ∧ a ≠ p ∧ H1 p = some (.dK []) ∧ kvs.length ≤ 1000 ∧
  ∀ q, (upd H1 p (.dK (mergeK [] kvs))) q = none → tk σ (upd (upd H1 p (.dK (mergeK [] kvs))) q (.dK [])) fun x H2 => tv σ H2 fun y H3 => ∃ (k : Key) (acc : List (Key × V)), x = kV k ∧ H3 p = some (.dK acc) ∧ acc.length ≤ 1000 ∧ H3 q = some (.dK []) ∧ p ≠ q ∧
    Q (.ref p) (upd (upd H3 q (.dK [(k, y)])) p (.dK (putK acc k y)))
theorem pe_dstar {X : Cx} {pos : Pos} {m k v : Expr} {td tk tv : TE} (hm : PE X m td) (hk : PE X k tk) (hv : PE X v tv) : PE X (.Dict [none, some k] [m, v] pos) (tDStar td tk tv) := by
  refine ⟨fun pins s σ H Q I q => ?_⟩
  have hn := I.hok.fresh (Nat.le_refl s.heap.objs.size)
  have I1 := I.laid (a := s.heap.objs.size) (o := .dK []) (h' := s.heap.push { cls := .type "dict", data := .dict #[] }) (t' := s.toks) (fun _ _ q => Heap.get?_push_of_some _ q) (Nat.le_refl _) (dk_empty s.heap I.big)
  rw [arm_eval_Dict]
  refine wpAny_bind (wpAny_standAt ?_)
  show wpAny _ _ (dictDisplay [(none, do let x ← eval m X.env; standAt pos; pure x), (some (eval k X.env), do let x ← eval v X.env; standAt pos; pure x)]) _ _ _
  refine wpAny_dstar (knd := mixKind X.prog X.w) ?_
  refine wpAny_bind (thn (hm.run pins _ σ _ _ I1 (q _ hn)) fun u s1 ⟨x, H1, I2, rx, a, kvs, ex, ha, ap, hp, l, q1⟩ => wpAny_bind (wpAny_standAt (wpAny_pure ?_)))
  subst ex
  obtain rfl : u = Value.ref a := rx
  obtain ⟨z2, hd2, vs2, rel2, dd2⟩ := dk_of I2.hok ha
  obtain ⟨z1, hd1, vs1, rel1, dd1⟩ := dk_of I2.hok hp
  cases rel1
  refine ⟨a, vs2, rfl, hd2, Ne.symm ap, dd2, dd1, by rw [← rel2.length]; exact z2, fun h1 dm1 sb1 => ?_⟩
  have he1 : ∃ q, h1.get? s.heap.objs.size = some q := let ⟨q, _, _, hq, _⟩ := dm1; ⟨q, hq⟩
  have zm : (mergeK [] kvs).length ≤ sizeLine := by
    have := length_mergeK kvs []
    rw [List.length_nil] at this
    omega
  have I3 := d_write (t' := s1.toks) I2 (by rw [hp]; exact True.intro) sb1 he1 (dk_new (H' := upd H1 s.heap.objs.size (.dK (mergeK [] kvs))) zm hd1 (rel2.merge .nil) dm1)
  have hn3 := I3.hok.fresh (Nat.le_refl h1.objs.size)
  have I4 := I3.laid (a := h1.objs.size) (o := .dK []) (h' := h1.push { cls := .type "dict", data := .dict #[] }) (t' := s1.toks) (fun _ _ q => Heap.get?_push_of_some _ q) (Nat.le_refl _) (dk_empty h1 I3.big)
  refine thn (hk.run pins _ σ _ _ I4 (q1 _ hn3)) fun kv s2 ⟨y, H2, I5, ry, q2⟩ => ?_
  refine wpAny_bind (thn (hv.run pins _ σ _ _ I5 q2) fun vv s3 ⟨z, H3, I6, rz, k', acc, ek, hpa, la, hq, pq, q3⟩ => wpAny_bind (wpAny_standAt (wpAny_pure ?_)))
  subst ek
  obtain ⟨z4, hd4, vs4, rel4, dd4⟩ := dk_of I6.hok hpa
  obtain ⟨z5, hd5, vs5, rel5, dd5⟩ := dk_of I6.hok hq
  cases rel5
  refine ⟨k', vs4, kV_is ry, dd4, ?_, dd5, Ne.symm pq, hd5, fun h4 d2 sb4 h5 d1 sb5 => ⟨.ref s.heap.objs.size, _, ?_, rfl, q3⟩⟩
  · rw [← rel4.length]
    exact Nat.lt_of_le_of_lt la (by decide)
  have r1 : KV (putK acc k' z) (stored vs4 k' vv) := rel4.put k' rz
  have r2 : KV [(k', z)] [(k', vv)] := .cons ⟨rfl, rz⟩ .nil
  have he4 : ∃ q, h4.get? h1.objs.size = some q := let ⟨q, _, _, hq, _⟩ := d2; ⟨q, hq⟩
  have he5 : ∃ q, h5.get? s.heap.objs.size = some q := let ⟨q, _, _, hq, _⟩ := d1; ⟨q, hq⟩
  have I7 := d_write (t' := s3.toks + 1) I6 (by rw [hq]; exact True.intro) sb4 he4 (dk_new (H' := upd H3 h1.objs.size (.dK [(k', z)])) (by show 1 ≤ sizeLine; decide) hd5 r2 d2)
  have zp : (putK acc k' z).length ≤ sizeLine := by
    have := length_putK acc k' z
    exact Nat.le_trans this (Nat.le_of_lt (Nat.lt_of_le_of_lt (Nat.succ_le_succ la) (by decide)))
  have hp7 : (upd H3 h1.objs.size (.dK [(k', z)])) s.heap.objs.size = some (.dK acc) := by rw [upd_ne pq]; exact hpa
  have I8 := d_write (t' := s3.toks + 1) I7 (by rw [hp7]; exact True.intro) sb5 he5 (dk_new (H' := upd (upd H3 h1.objs.size (.dK [(k', z)])) s.heap.objs.size (.dK (putK acc k' z))) zp hd4 r1 d1)
  exact I8
/-! ### a generator expression's own frame -/
/-- the context of a generator's turns: its frame cenv stands over the def's -/
abbrev gX (X : Cx) (s : Shared) (H : Hp) (A' : Around) (cenv : Env) (fp : List Addr) : Cx :=
  { X with A := A', s_0 := s, H_0 := H, env := cenv, outer := X.stack, stack := cenv :: X.stack, ex := fp, fn := fun _ => false, pn := [], xe := fun _ _ => False }
/-- what is asked of the expression's own scope -/
structure GnOk (scope : Scope) : Prop where
  co : scope.isCoroutine = false
  nocell : ∀ y ∈ scope.names, y.2 ≠ .cell
  dot : scope.names.lookup (".0" : Str) = some NameKind.local
section
variable {X : Cx} {pins : List (Addr × Obj)} {σ : L2.St} {H : Hp} {s : Shared}
theorem gen_start {scope : Scope} {own : List (Str × Nat)} {fp : List Addr} {A' : Around} {code : Value} {m0 : Str → Option Value} {h5 : Heap} {g5 : Array GenState} {t5 : Nat} {a : Addr} {go : Obj}
    (I : Inv X pins σ H s) (ok : BlkOk X.N X.env.scope scope own) (gk : GnOk scope) (hN : X.N.Nodup) (hfp : ∀ b ∈ fp, FpOk X pins H b ∧ b < s.heap.objs.size)
    (hA : A'.handled = none) (hF : A'.frames = some (genEnv scope (cloFrom X.env.cells scope.names []) s.heap.objs.size code builtinsNs X.env :: X.stack))
    (kp : ∀ b o, s.heap.get? b = some o → h5.get? b = some o) (hn : h5.Ns s.heap.objs.size m0) (hm0 : ∀ x, x ≠ (".0" : Str) → m0 x = none) (hdN : (".0" : Str) ∉ X.N) (hb5 : AllBare g5)
    (ha : s.heap.objs.size < a) (hgo : h5.get? a = some go) (hgd : ∀ v, go.data ≠ .cell v) :
    Inv (gX X s H A' (genEnv scope (cloFrom X.env.cells scope.names []) s.heap.objs.size code builtinsNs X.env) fp) [(a, go)] (wipe σ (own.map (·.2))) H { s with heap := h5, gens := g5, toks := t5 } := by
  have hfree : ∀ y ∈ scope.names, y.2 = .free → ∃ c, X.env.cells.lookup y.1 = some c := fun y hy e =>
    (ok.free y hy e).elim (fun k => I.ok.has _ (.inl k)) fun k => I.ok.has _ (.inr k)
  have cm : ∀ {y c}, (y, c) ∈ cloFrom X.env.cells scope.names [] → X.env.cells.lookup y = some c ∧ c < s.heap.objs.size := fun {y c} q => by
    rcases cloFrom_mem q with q | ⟨h1, e1⟩
    · cases q
    · obtain ⟨c1, hc1⟩ := hfree _ h1 rfl
      rw [hc1] at e1
      cases e1
      obtain ⟨w1, z1⟩ := I.cell _ _ hc1
      exact ⟨hc1, z1.lt⟩
  have cl : ∀ {y c}, (cloFrom X.env.cells scope.names []).lookup y = some c → X.env.cells.lookup y = some c ∧ c < s.heap.objs.size := fun {y c} e => cm (PySem.mem_of_lookup e)
  have look : ∀ {y}, scope.names.lookup y = some .free → ∃ c, (cloFrom X.env.cells scope.names []).lookup y = some c := fun {y} e =>
    mem_lookup (cloFrom_has (cells := X.env.cells) (acc := []) (PySem.mem_of_lookup e))
  generalize hce : genEnv scope (cloFrom X.env.cells scope.names []) s.heap.objs.size code builtinsNs X.env = ce at hF
  have cL : ce.locals = s.heap.objs.size := by rw [← hce]; rfl
  have cC : ce.cells = cloFrom X.env.cells scope.names [] := by rw [← hce]; rfl
  have cS : ce.scope = scope := by rw [← hce]; rfl
  have cF : ce.frame = some ce.locals := by rw [← hce]; rfl
  have okG : (gX X s H A' ce fp).Ok := by
    refine ⟨I.ok.mod, ?_, ?_, ?_, ?_, fun y z c e1 e2 => ?_, fun y hy => ?_, fun y c z e => ?_, fun _ => hA, hF, .inr ⟨rfl, cF⟩, fun b hb => ⟨?_, fun y c e z => ?_⟩, I.bs, Nat.le_trans I.ok.bsz I.sz, fun b o e hb => ?_, fun b hb z => ?_, I.stack, I.stkFree⟩
    · show ce.scope.kind = _
      rw [cS]
      exact ok.kind
    · show ce.globals = _
      rw [← hce]
      exact I.ok.glob
    · show ce.builtins = _
      rw [← hce]
      rfl
    · show s.heap.objs.size ≤ ce.locals
      rw [cL]
      exact Nat.le_refl _
    · have e1 : ce.cells.lookup y = some c := e1
      have e2 : ce.cells.lookup z = some c := e2
      rw [cC] at e1 e2
      exact I.ok.inj y z c (cl e1).1 (cl e2).1
    · show ∃ c, ce.cells.lookup y = some c
      rw [cC]
      have hy : scope.names.lookup y = some .cell ∨ scope.names.lookup y = some .free := by
        have hy' : ce.scope.names.lookup y = some .cell ∨ ce.scope.names.lookup y = some .free := hy
        rw [cS] at hy'
        exact hy'
      rcases hy with k | k
      · exact absurd rfl (gk.nocell _ (PySem.mem_of_lookup k))
      · exact look k
    · exact absurd (show false = true from z) Bool.false_ne_true
    · show b ≠ ce.locals
      rw [cL]
      exact Nat.ne_of_lt (hfp b hb).2
    · have e : ce.cells.lookup y = some c := e
      rw [cC] at e
      exact (hfp b hb).1.2.2.2.2.1 y c (cl e).1 z
    · rcases (hfp b hb).1.2.2.2.1 with q | q
      · exact I.ok.noex b o e q
      · exact absurd (Nat.lt_of_lt_of_le (Heap.lt_size e) (Nat.le_trans I.ok.bsz q)) (Nat.lt_irrefl _)
    · rcases List.mem_cons.mp (I.stkSub b z) with q | q
      · exact (hfp b hb).1.2.1 q
      · exact (hfp b hb).1.2.2.1 q
  refine ⟨okG, rfl, hb5, Un.kept kp, ⟨m0, ?_, fun i y av e1 e2 e3 => ?_⟩, fun y c e => ?_, ?_, fun y c e => ?_, fun p hp => ?_, I.hok.kept kp, by rw [wipe_length]; exact I.len⟩
  · show Heap.Ns _ ce.locals _
    rw [cL]
    exact hn
  · obtain ⟨e2, hne⟩ := wipe_some e2
    have e3 : Vis ce.scope y := e3
    rw [cS] at e3
    have hfr : scope.names.lookup y = some .free := by
      have no : ∀ k, scope.names.lookup y = some k → ¬ (k = .local ∨ k = .cell) := fun k hk hh => by
        rcases ok.own _ (PySem.mem_of_lookup hk) hh with q | q
        · obtain ⟨p, hp, hpy⟩ := List.mem_map.mp q
          have e4 := ok.ix p hp
          have hpy : p.1 = y := hpy
          rw [hpy] at e4
          exact hne (List.mem_map.mpr ⟨p, hp, nodup_ix hN e4 e1⟩)
        · exact q (List.mem_of_getElem? e1)
      rcases e3 with e3 | e3 | e3
      · exact absurd (.inl rfl) (no _ e3)
      · exact absurd (.inr rfl) (no _ e3)
      · exact e3
    obtain ⟨m, _, hl⟩ := I.loc
    have hvis : Vis X.env.scope y := (ok.free _ (PySem.mem_of_lookup hfr) rfl).elim (fun k => .inr (.inl k)) fun k => .inr (.inr k)
    obtain ⟨w1, r1, q1⟩ := hl i y av e1 e2 hvis
    obtain ⟨c, hc⟩ := look hfr
    refine ⟨w1, r1, .inr ⟨.inr (by show ce.scope.names.lookup y = _; rw [cS]; exact hfr), c, by show ce.cells.lookup y = _; rw [cC]; exact hc, ?_⟩⟩
    rcases q1 with ⟨k, _⟩ | ⟨_, c', e', z⟩
    · have k : X.env.scope.names.lookup y = some .local := k
      rcases ok.free _ (PySem.mem_of_lookup hfr) rfl with k' | k' <;> (have k' : X.env.scope.names.lookup y = _ := k'; rw [k'] at k; cases k)
    · rw [(cl hc).1] at e'
      cases e'
      exact z.keeps kp
  · have e : ce.cells.lookup y = some c := e
    rw [cC] at e
    obtain ⟨w1, z1⟩ := I.cell y c (cl e).1
    exact ⟨w1, z1.keeps kp⟩
  · show H ce.locals = none
    rw [cL]
    exact I.hok.fresh (Nat.le_refl _)
  · have e : ce.cells.lookup y = some c := e
    rw [cC] at e
    exact I.freeC y c (cl e).1
  · have hp : p = (a, go) := by simpa using hp
    subst hp
    refine ⟨hgo, I.hok.fresh (Nat.le_of_lt ha), ?_, fun z => ?_, hgd⟩
    · show a ≠ ce.locals
      rw [cL]
      exact Nat.ne_of_gt ha
    · have z : a ∈ frs X.stack := z
      obtain ⟨_, o, ho, _⟩ := I.stack.mem z
      exact absurd (Nat.lt_trans (Heap.lt_size ho) ha) (Nat.lt_irrefl _)
end
/-! ### all(..), any(..) of a generator, told by what each turn does -/
/-- between a yield and the next turn -/
structure Rs (s s' : Shared) : Prop where
  heap : s'.heap = s.heap
  os : s'.os = s.os
  bare : AllBare s'.gens
  size : s.gens.size ≤ s'.gens.size
theorem inv_gens {X : Cx} {pins : List (Addr × Obj)} {σ : L2.St} {H : Hp} {s s' : Shared} (I : Inv X pins σ H s) (h1 : s'.heap = s.heap) (h2 : s'.os = s.os) (h3 : AllBare s'.gens) : Inv X pins σ H s' := by
  obtain ⟨hh, g, d, t, o⟩ := s'
  have e1 : hh = s.heap := h1
  have e2 : o = s.os := h2
  subst e1 e2
  exact ⟨I.ok, I.os, h3, I.base, I.loc, I.cell, I.free, I.freeC, I.pin, I.hok, I.len⟩
theorem Rs.inv {X : Cx} {pins : List (Addr × Obj)} {σ : L2.St} {H : Hp} {s s' : Shared} (r : Rs s s') (I : Inv X pins σ H s) : Inv X pins σ H s' := by
  obtain ⟨h1, h2, h3, _⟩ := r
  obtain ⟨hh, g, d, t, o⟩ := s'
  have e1 : hh = s.heap := h1
  have e2 : o = s.os := h2
  subst e1 e2
  exact ⟨I.ok, I.os, h3, I.base, I.loc, I.cell, I.free, I.freeC, I.pin, I.hok, I.len⟩
theorem bare_set {gens : Array GenState} (h : AllBare gens) {g : Nat} {x : GenState} (hx : x.bare = true) : AllBare (gens.setIfInBounds g x) := fun y hy => by
  obtain ⟨i, hi, rfl⟩ := Array.mem_iff_getElem.mp hy
  rw [Array.size_setIfInBounds] at hi
  rw [Array.getElem_setIfInBounds hi]
  split
  · exact hx
  · exact h _ (Array.getElem_mem hi)
theorem Rs.set {s : Shared} (hb : AllBare s.gens) {g : Nat} {x : GenState} (hx : x.bare = true) : Rs s (s.setGen g x) :=
  ⟨rfl, rfl, bare_set hb hx, Nat.le_of_eq (GenW.setGen_size s g x).symm⟩
theorem Rs.trans {s s1 s2 : Shared} (a : Rs s s1) (b : Rs s1 s2) : Rs s s2 := ⟨b.heap.trans a.heap, b.os.trans a.os, b.bare, Nat.le_trans a.size b.size⟩
/-- the protocol of a generator whose items are truths: T b: what holds where b comes out -/
def gY (gi : Nat) (a : Addr) (stop : Bool) (Fin : Shared → Prop) : Protocol := fun n s₀ v s kap =>
  ∃ b, v = .bool b ∧ s.heap.IsGen a gi ∧ s.heap.NoLimit ∧ AllBare s.gens ∧ gi < s.gens.size ∧ (b = stop → Fin s) ∧ (b ≠ stop → ∀ s', Rs s s' → kap (.send .none) s')
def gR (End : Shared → Prop) : Nat → Shared → Shared → Prop := fun _ _ s => AllBare s.gens ∧ End s
/-- the generator waits -/
def Waits (prog : Program) (w : World) (A : Around) (gi : Nat) (a : Addr) (stop : Bool) (End Fin : Shared → Prop) (n : Nat) (s : Shared) : Prop :=
  s.heap.IsGen a gi ∧ s.heap.NoLimit ∧ AllBare s.gens ∧ ∃ gs, s.gens[gi]? = some gs ∧
    ∀ s', Rs s s' → gs.Goes (model prog w) A.in1 (fun n s₀ r s₁ => r = .ok .next ∧ gR End n s₀ s₁) (gY gi a stop Fin) n (.send .none) s'
section
variable {prog : Program} {w : World} {A : Around} {gi : Nat} {a : Addr} {stop : Bool} {End Fin : Shared → Prop}
theorem waits_next {n : Nat} {s : Shared} {Q : Option Value → Shared → Prop} {E : Value → Shared → Prop} (hh : A.handled = none) (hroom : A.depth < recursionLimit)
    (hE : ∀ s s' : Shared, End s → s'.os = s.os → AllBare s'.gens → (∀ b o, s.heap.get? b = some o → s'.heap.get? b = some o) → End s')
    (hF : ∀ s s' : Shared, Fin s → s'.os = s.os → AllBare s'.gens → (∀ b o, s.heap.get? b = some o → s'.heap.get? b = some o) → Fin s')
    (W : Waits prog w A gi a stop End Fin n s) (hN : ∀ s', End s' → Q none s') (hS : ∀ s', Fin s' → Q (some (.bool stop)) s')
    (hG : ∀ s' m, m < n → Waits prog w A gi a stop End Fin m s' → Q (some (.bool (!stop))) s') : wpAny (model prog w) A (pyNext (.ref a)) Q E s := by
  obtain ⟨hg, hl, hb, gs, hgs, hgo⟩ := W
  refine wpAny_pyNext_genexpQ (P := gR End) (Y := gY gi a stop Fin) hh hl hroom hg hgs (hgo _ (Rs.set hb rfl)) (fun v s₁ gs' hb' hv => ?_) fun s₁ hp h' hk => ?_
  · obtain ⟨b, rfl, g1, l1, b1, z1, f1, k1⟩ := hv
    by_cases e : b = stop
    · subst e
      exact hS _ (hF _ _ (f1 rfl) rfl (bare_set b1 hb') fun _ _ q => q)
    · have eb : b = !stop := by cases b <;> cases stop <;> first | rfl | exact absurd rfl e
      subst eb
      cases n with
      | zero => exact False.elim (k1 e s₁ ⟨rfl, rfl, b1, Nat.le_refl _⟩)
      | succ m =>
        refine hG _ m (Nat.lt_succ_self m) ⟨g1, l1, bare_set b1 hb', gs', ?_, fun s' r => k1 e s' ((Rs.set b1 hb').trans r)⟩
        show (s₁.gens.setIfInBounds gi gs')[gi]? = some gs'
        rw [Array.getElem?_setIfInBounds_self_of_lt z1]
  · obtain ⟨b1, e1⟩ := hp
    exact hN _ (hE _ _ e1 rfl (bare_set b1 rfl) fun b o q => hk b o q)
end
section
variable {prog : Program} {w : World} {A : Around} {gi : Nat} {a : Addr} {End Fin : Shared → Prop}
theorem all_loop (hh : A.handled = none) (hroom : A.depth < recursionLimit)
    (hE : ∀ s s' : Shared, End s → s'.os = s.os → AllBare s'.gens → (∀ b o, s.heap.get? b = some o → s'.heap.get? b = some o) → End s')
    (hF : ∀ s s' : Shared, Fin s → s'.os = s.os → AllBare s'.gens → (∀ b o, s.heap.get? b = some o → s'.heap.get? b = some o) → Fin s') :
    ∀ (n : Nat) (s : Shared), Waits prog w A.in1 gi a false End Fin n s →
      codeAny (model prog w) A (.builtin "all.loop" ⟨[.ref a], []⟩) (fun r s' => (r = .ok (.ret (.bool true)) ∧ End s') ∨ (r = .ok (.ret (.bool false)) ∧ Fin s')) s := by
  intro n
  induction n using Nat.strongRecOn with
  | ind n ih =>
    intro s W
    refine codeAny_builtin PySem.F.entry_all_loop ?_
    rw [Around.under_plainId PySem.F.plain_all_loop]
    show wpAny (model prog w) A.in1 (pyNext (.ref a) >>= _) _ _ s
    refine wpAny_bind (waits_next (A := A.in1) hh hroom hE hF W (fun s' e => ?_) (fun s' e => ?_) fun s' m hm W' => ?_)
    · exact wpAny_bind (wpAny_rule (wpAny_pure (.inl ⟨rfl, e⟩)))
    · refine wpAny_bind (wpAny_holding (wpAny_truthy_bool ?_))
      refine wpAny_bind (wpAny_letGo ?_)
      exact wpAny_bind (wpAny_rule (wpAny_pure (.inr ⟨rfl, e⟩)))
    · refine wpAny_bind (wpAny_holding (wpAny_truthy_bool ?_))
      refine wpAny_bind (wpAny_letGo ?_)
      exact wpAny_pure ⟨plainId_quiet PySem.F.plain_all_loop _, ih m hm s' W'⟩
end
/-! ### all(elt for target in iter) -/
/-- the reading: W by the turn and a measure; P: the def's table, which may grow -/
def tAll (P : Addr) (wi : TI) (g : TG) (te : TE) (vs : List Nat) : TE := fun σ H Q => wi σ H fun J H1 => GxR.TabG H1 P ∧ ∃ W : Nat → Nat → Hp → Prop, (∀ H2, GxR.Tabbed P H1 H2 → ∃ m, W 0 m H2) ∧ ∀ i m H, W i m H →
  (J.stop i H ∧ Q (.bl true) H) ∨ (J.go i H ∧ ∃ Nx : Hp → Prop, (∀ H', Nx H' → ∃ m', m' < m ∧ W (i + 1) m' H') ∧ ∀ x H', J.yld i H x H' → g x (wipe σ vs) H' fun σ2 H2 => wipe σ2 vs = wipe σ vs ∧
    te σ2 H2 fun y H3 => ∃ b, y = .bl b ∧ if b = true then Nx H3 else Q (.bl false) H3)
section
variable {X : Cx}
theorem pe_all {k : Nat} {c P : Addr} {elt tg iter : Expr} {scope : Scope} {own : List (Str × Nat)} {p pos gpos : Pos} {wi : TI} {g : TG} {te : TE}
    (hr : Room (k + 1) X.A) (TB : GxR.TabB X.base X.mg c P) (hcode : X.env.code = .ref c) (hc : X.calm = true) (hN : X.N.Nodup) (hG : Gl X "all") (hM : X.mg "all" = none) (hi : PI X tg iter wi) (ok : BlkOk X.N X.env.scope scope own) (gk : GnOk scope) (hdN : (".0" : Str) ∉ X.N)
    (hg : ∀ (s : Shared) (H : Hp) (A' : Around) (C : Addr) (cl : List (Str × Addr)) (code : Value) (fp : List Addr), PG (gX X s H A' (genEnv scope cl C code builtinsNs X.env) fp) tg g)
    (he : ∀ (s : Shared) (H : Hp) (A' : Around) (C : Addr) (cl : List (Str × Addr)) (code : Value) (fp : List Addr), Room k A' → PE (gX X s H A' (genEnv scope cl C code builtinsNs X.env) fp) elt te)
    (hs : ∀ v, genFold iter X.env v = pure v := by intro _; rfl)
    (hst : starEach [.GeneratorExp elt [⟨tg, iter, [], 0⟩] scope gpos] X.env = (false, eval (.GeneratorExp elt [⟨tg, iter, [], 0⟩] scope gpos) X.env) :: starEach [] X.env := by rfl) :
    PE X (.Call (.Name "all" p) [.GeneratorExp elt [⟨tg, iter, [], 0⟩] scope gpos] [] pos) (tAll P wi g te (own.map (·.2))) := by
  refine ⟨fun pins s σ H Q I h => ?_⟩
  have hh : X.A.handled = none := hr.hd
  refine wpAny_Call_Name_kw (ld_blt I hG hM PyProof.Rows.boot_all ?_)
  refine PyProof.Rows.callWith_builtin1 ?_ hst (by rfl)
  rw [hst]
  show wpAny _ _ (spliced ((false, eval (.GeneratorExp elt [⟨tg, iter, [], 0⟩] scope gpos) X.env) :: backTo pos (starEach [] X.env))) _ _ s
  have hfree : ∀ y ∈ scope.names, y.2 = .free → ∃ c, X.env.cells.lookup y.1 = some c := fun y hy e =>
    (ok.free y hy e).elim (fun k => I.ok.has _ (.inl k)) fun k => I.ok.has _ (.inr k)
  refine Calls.spliced_cons (wpAny_GeneratorExp_make gk.co (closure_ok hfree) gk.nocell gk.dot ok.kind (by have := hr.dp; omega) (thn (hi.run pins s σ H _ I h) fun xv s1 hx => thn hx fun itv s2 h2 => ?_) hs)
  obtain ⟨it, fp, tn, J, H2, e, I2, T, st2, f2, ⟨ps, hP, ht⟩, W, w0, turn⟩ := h2
  subst e
  refine ⟨I2.nolimit, ?_⟩
  have hPs : s2.heap.get? P = some { cls := .none, data := .fields ps } := I2.hok P _ hP
  have cd : PySem.W.CodeHd s2.heap c P := TB.code.keeps fun b u e => I2.bk b u e
  have sz2 : ∀ b ∈ fp, b < s2.heap.objs.size := fun b hb => by
    obtain ⟨o, e, _⟩ := T.obj _ _ st2 b hb
    exact Heap.lt_size e
  have nfP : ∀ b ∈ fp, b ≠ P := fun b hb z => by
    have q := (f2 b hb).1
    rw [z, hP] at q
    cases q
  -- behind the table
  have cont : ∀ (code : Value) (h3 : Heap) (tk : Nat) (more : Array Value), s2.heap.objs.size ≤ h3.objs.size → (∀ b o, b ≠ P → s2.heap.get? b = some o → h3.get? b = some o) → h3.get? P = some { cls := .none, data := .fields (ps ++ more) } → TriplesOk (ps ++ more).toList →
      wpAny (model X.prog X.w) X.A (builtinsFor X.env.globals X.env.builtins) (fun bi s4 => ∀ h', h'.Ns s4.heap.objs.size (fun y => if y = ".0" then some (.ref it) else none) → Heap.SameBut s4.heap.objs.size (s4.heap.push { cls := .type "frame", data := .dict #[] }) h' →
        wpAny (model X.prog X.w) X.A (spliced (backTo pos (starEach [] X.env))) (fun vs s5 => wpAny (model X.prog X.w) X.A (call (.builtin "all") (.ref h'.objs.size :: vs)) (EP X pins σ Q) X.xe s5) X.xe { s4 with
            gens := s4.gens.push (.fresh (.compStart (.GeneratorExp elt [⟨tg, iter, [], 0⟩] scope gpos) 0 (.ref it) .none (genEnv scope (cloFrom X.env.cells scope.names []) s4.heap.objs.size code bi X.env))), toks := s4.toks + 1 + 1 + 1,
            heap := h'.push { cls := .type "generator", data := .fields #[.int s4.gens.size 0, .str "<genexpr>" (s4.toks + 1), .str (X.env.qual ++ "<genexpr>") (s4.toks + 1 + 1)] } }) X.xe { s2 with heap := h3, toks := tk } := by
    intro code h3 tk more hle3 hk3 hP3 ht3
    have I3 : Inv X pins σ (upd H2 P (.tbl (ps ++ more))) { s2 with heap := h3, gens := s2.gens, drawn := s2.drawn, toks := tk } := GxR.inv_tab I2 hP hk3 hP3 I2.bare
    have tab3 : GxR.Tabbed P H2 (upd H2 P (.tbl (ps ++ more))) := ⟨⟨_, upd_same, ht3⟩, fun b hb => upd_ne hb⟩
    have st3 : tn 0 h3 := T.keep _ _ _ st2 fun b hb o e => hk3 b o (nfP b hb) e
    have f3 : ∀ b ∈ fp, FpOk X pins (upd H2 P (.tbl (ps ++ more))) b := fun b hb => ⟨by rw [upd_ne (nfP b hb)]; exact (f2 b hb).1, (f2 b hb).2⟩
    generalize upd H2 P (.tbl (ps ++ more)) = H3 at I3 tab3 f3
    obtain ⟨m0, hw0⟩ := w0 H3 tab3
    have sz3 : ∀ b ∈ fp, b < h3.objs.size := fun b hb => Nat.lt_of_lt_of_le (sz2 b hb) hle3
    have hs3 : ({ s2 with heap := h3, gens := s2.gens, drawn := s2.drawn, toks := tk } : Shared) = { s2 with heap := h3, toks := tk } := rfl
    rw [hs3] at I3
    generalize hsh : ({ s2 with heap := h3, toks := tk } : Shared) = s3 at I3 ⊢
    have eh : h3 = s3.heap := by rw [← hsh]
    rw [eh] at st3 sz3
    clear hsh hs3 eh hP3 hk3 hle3
    obtain ⟨bm, ob, e1, e2, e3, e4, e5, e6, e7, e8⟩ := TB.bm
    refine wpAny_builtinsFor (m := X.mg) (by rw [I3.ok.glob]; exact I3.mod.glob.keeps I3.bk) e1 e2 (I3.bk _ _ e5) e6 e7 e8 ?_
    intro h' hn' hs'
    refine Calls.spliced_nil ?_
    have hsz : h'.objs.size = s3.heap.objs.size + 1 := by rw [hs'.1, Heap.size_push]
    generalize hgo : ({ cls := .type "generator", data := .fields #[.int s3.gens.size 0, .str "<genexpr>" (s3.toks + 1), .str (X.env.qual ++ "<genexpr>") (s3.toks + 1 + 1)] } : Obj) = go
    have kp5 : ∀ b o, s3.heap.get? b = some o → (h'.push go).get? b = some o := fun b o e => Heap.get?_push_of_some _ (hs'.extBut b o (Nat.ne_of_lt (Heap.lt_size e)) (Heap.get?_push_of_some _ e))
    generalize hce : genEnv scope (cloFrom X.env.cells scope.names []) s3.heap.objs.size code builtinsNs X.env = ce
    have hhA : (X.A.in1.in1.over (.compLoop (.GeneratorExp elt [⟨tg, iter, [], 0⟩] scope gpos) 0 (.ref it) .none ce) []).handled = none := hh
    have hFr : (X.A.in1.in1.over (.compLoop (.GeneratorExp elt [⟨tg, iter, [], 0⟩] scope gpos) 0 (.ref it) .none ce) []).frames = some (ce :: X.stack) := by
      show pushEnvs [ce] (pushEnvs [] X.A.frames) = _
      rw [I3.ok.frames]
      rfl
    have hRm : Room k (X.A.in1.in1.over (.compLoop (.GeneratorExp elt [⟨tg, iter, [], 0⟩] scope gpos) 0 (.ref it) .none ce) []) := by
      have z1 := hr.dp
      have z2 := hr.un
      refine ⟨hhA, ?_, ?_⟩
      · show X.A.depth + 0 + 1 + 3 * k + 5 < recursionLimit
        omega
      · show X.A.units + 1 + 1 + 0 + 3 + 16 * k + 200 < cLine
        omega
    generalize hAg : X.A.in1.in1.over (.compLoop (.GeneratorExp elt [⟨tg, iter, [], 0⟩] scope gpos) 0 (.ref it) .none ce) [] = Ag at hhA hFr hRm
    have I5 : Inv (gX X s3 H3 Ag ce fp) [(h'.objs.size, go)] (wipe σ (own.map (·.2))) H3 { s3 with heap := h'.push go, gens := s3.gens.push (.fresh (.compStart (.GeneratorExp elt [⟨tg, iter, [], 0⟩] scope gpos) 0 (.ref it) .none ce)), toks := s3.toks + 1 + 1 + 1 } := by
      have q := gen_start (code := code) (A' := Ag) (h5 := h'.push go) (g5 := s3.gens.push (.fresh (.compStart (.GeneratorExp elt [⟨tg, iter, [], 0⟩] scope gpos) 0 (.ref it) .none ce))) (t5 := s3.toks + 1 + 1 + 1) (go := go) I3 ok gk hN (fun b hb => ⟨f3 b hb, sz3 b hb⟩) hhA (by rw [hce]; exact hFr) kp5 (hn'.push _)
        (fun x hx => if_neg hx) hdN (I3.bare.push rfl) (a := h'.objs.size) (by omega) (Heap.get?_push_size _ (by rw [← hgo]; rfl)) (by rw [← hgo]; intro v z; cases z)
      rw [hce] at q
      exact q
    have st5 : tn 0 (h'.push go) := T.keep _ _ _ st3 fun b _ o e => kp5 b o e
    have nfp : ∀ b ∈ fp, H3 b = none := fun b hb => (f3 b hb).1
    have pg := hg s3 H3 Ag s3.heap.objs.size (cloFrom X.env.cells scope.names []) code fp
    have pe := he s3 H3 Ag s3.heap.objs.size (cloFrom X.env.cells scope.names []) code fp hRm
    rw [hce] at pg pe
    have cCo : ce.scope.isCoroutine = false := by rw [← hce]; exact gk.co
    clear hn' hs' kp5 w0 hce
    -- back in the def's context
    have back : ∀ {σ' : L2.St} {H' : Hp} {s' : Shared} {pl : List (Addr × Obj)}, Inv (gX X s3 H3 Ag ce fp) pl σ' H' s' → Inv X pins σ H' s' := fun {σ' H' s' pl} J => I3.call' (ch := fp) J.os J.base J.hok J.bare fun b hb =>
      ⟨(f3 b hb).2.2.2.1, (f3 b hb).2.1, (f3 b hb).2.2.2.2.1, (f3 b hb).2.2.2.2.2⟩
    have stat : ∀ {σ' : L2.St} {H' : Hp} {s' : Shared}, Inv (gX X s3 H3 Ag ce fp) [(h'.objs.size, go)] σ' H' s' → (∀ b ∈ fp, H' b = none) → ∀ b ∈ fp, FpOk (gX X s3 H3 Ag ce fp) [(h'.objs.size, go)] H' b := fun {σ' H' s'} J hn b hb =>
      ⟨hn b hb, (J.ok.exf b hb).1, J.ok.exfs b hb, .inl hb, fun x c e => (J.ok.exf b hb).2 x c e, fun p hp => by
        have hp : p = (h'.objs.size, go) := by simpa using hp
        rw [hp]
        exact Nat.ne_of_gt (Nat.lt_trans (sz3 b hb) (by rw [hsz]; exact Nat.lt_succ_self _))⟩
    have gen : ∀ {σ' : L2.St} {H' : Hp} {s' : Shared} {pl : List (Addr × Obj)}, Inv (gX X s3 H3 Ag ce fp) ([(h'.objs.size, go)] ++ pl) σ' H' s' → s'.heap.IsGen h'.objs.size s3.gens.size := fun {σ' H' s' pl} J => by
      have q := (J.pin (h'.objs.size, go) (by simp)).1
      exact ⟨go, _, _, q, by rw [← hgo], by rw [← hgo], by rw [← hgo]⟩
    -- the turns
    have loop : ∀ (m n i : Nat) (s₀ s : Shared) (H : Hp), m < n → W i m H → Inv (gX X s3 H3 Ag ce fp) [(h'.objs.size, go)] (wipe σ (own.map (·.2))) H s → tn i s.heap → (∀ b ∈ fp, H b = none) → s3.gens.size + 1 ≤ s.gens.size →
        Seg (model X.prog X.w) X.A.in1.in1 (fun n s₀ r s₁ => r = .ok .next ∧ gR (fun s => ∃ H', Inv X pins σ H' s ∧ Q (.bl true) H') n s₀ s₁) (gY s3.gens.size h'.objs.size false fun s => ∃ H', Inv X pins σ H' s ∧ Q (.bl false) H') n s₀
          (.compLoop (.GeneratorExp elt [⟨tg, iter, [], 0⟩] scope gpos) 0 (.ref it) .none ce) ((model X.prog X.w).den (.compLoop (.GeneratorExp elt [⟨tg, iter, [], 0⟩] scope gpos) 0 (.ref it) .none ce)) [] s := by
      intro m
      induction m using Nat.strongRecOn with
      | ind m ih =>
        intro n i s₀ s H hmn w J st nf hz
        show Seg (model X.prog X.w) _ _ _ n s₀ _ ((compTurn (.GeneratorExp elt [⟨tg, iter, [], 0⟩] scope gpos) 0 (.ref it) .none ce).onRaise (leaving ce)) [] s
        rw [compTurn_gen]
        rw [Sem.onRaise_eq_wrap]
        refine seg_bind_wrap (wpAny_standAt (seg_bind_wrap ?_))
        rw [hAg]
        rcases turn i m H w with ⟨stp, qq⟩ | ⟨go', Nx, hNx, step⟩
        · refine thnF (T.done (gX X s3 H3 Ag ce fp) rfl rfl rfl hc i _ s _ H (fun _ _ => False) J (stat J nf) st stp) fun r s6 ⟨hr6, J6⟩ => ?_
          subst hr6
          exact seg_end (.ok .next) ⟨rfl, J6.bare, H, back J6, qq⟩
        · refine GenW.wpAny_gsz hz (thnF (T.item (gX X s3 H3 Ag ce fp) rfl rfl rfl hc i _ s _ H (fun _ _ => False) J (stat J nf) st go') fun r s6 ⟨u, hr6, h6⟩ hz6 => ?_)
          subst hr6
          refine seg_bind_wrap ?_
          rw [hAg]
          refine GenW.wpAny_gsz hz6 (thnF h6 fun _ s7 ⟨x, H7, J7, r7, y7, st7, n7⟩ hz7 => ?_)
          have J7' := J7.pinned (stat J7 n7) (T.obj _ _ st7)
          refine seg_bind_wrap ?_
          rw [hAg]
          refine GenW.wpAny_gsz hz7 (thnF (pg.run _ s7 _ H7 x u _ J7' r7 (step x H7 y7)) fun _ s8 ⟨σ8, H8, J8, hw8, q8⟩ hz8 => ?_)
          simp only [List.forIn_nil]
          refine seg_bind_wrap (wpAny_pure ?_)
          simp only [if_true]
          have hy : ∀ v, yieldOut ce v = yieldValue v := fun v => by simp only [yieldOut, cCo, Bool.false_eq_true, if_false]
          simp only [hy]
          rw [Sem.bind_eq_wrap', Sem.bind_eq_wrap']
          rw [Sem.wrap_wrap, Sem.wrap_wrap]
          refine seg_wrap ?_
          rw [hAg]
          refine GenW.wpAny_gsz hz8 (thnF (pe.run _ s8 σ8 H8 _ J8 q8) fun z s9 ⟨yv, H9, J9, r9, b, eb, qb⟩ hz9 => ?_)
          subst eb
          obtain rfl : z = Value.bool b := r9
          obtain ⟨n', rfl⟩ : ∃ n', n = n' + 1 := ⟨n - 1, by omega⟩
          refine seg_at (seg_yield rfl rfl rfl ⟨b, rfl, gen J9, J9.nolimit, J9.bare, hz9, fun e => ?_, fun e s' r => ?_⟩)
          · subst e
            exact ⟨H9, back J9, qb⟩
          · have e : b = true := by
              cases b with
              | true => rfl
              | false => exact absurd rfl e
            subst e
            rw [if_pos rfl] at qb
            obtain ⟨m', hm', w'⟩ := hNx H9 qb
            have pin' : ∀ b ∈ fp, ∀ o, s7.heap.get? b = some o → s9.heap.get? b = some o ∧ H9 b = none := fun b hb o e =>
              let z := J9.pin (b, o) (List.mem_append_right _ (List.mem_append_right _ (mem_pinsAt hb e)))
              ⟨z.1, z.2.1⟩
            have hl : (wipe σ (own.map (·.2))).length = σ8.length := by rw [← hw8, wipe_length]
            have K9 : Inv (gX X s3 H3 Ag ce fp) [(h'.objs.size, go)] (wipe σ (own.map (·.2))) H9 s9 := J9.unpinned.weak hl fun j v e => by
              rw [← hw8] at e
              exact (wipe_some e).1
            refine seg_again rfl (ih m' hm' n' (i + 1) s' s' H9 (by omega) w' (r.inv K9) ?_ (fun b hb => ?_) (Nat.le_trans hz9 r.size))
            · rw [r.heap]
              exact T.keep _ _ _ st7 fun b hb o e => (pin' b hb o e).1
            · obtain ⟨o, e, _⟩ := T.obj _ _ st7 b hb
              exact (pin' b hb o e).2
    have mono : ∀ (b : Bool) (s s' : Shared), (∃ H', Inv X pins σ H' s ∧ Q (.bl b) H') → s'.os = s.os → AllBare s'.gens → (∀ b o, s.heap.get? b = some o → s'.heap.get? b = some o) → ∃ H', Inv X pins σ H' s' ∧ Q (.bl b) H' := fun b s s' ⟨H', J, q⟩ h1 h2 h3 =>
      ⟨H', inv_gens (J.kept (t' := s'.toks) h3) rfl h1 h2, q⟩
    generalize hs5 : ({ s3 with heap := h'.push go, gens := s3.gens.push (.fresh (.compStart (.GeneratorExp elt [⟨tg, iter, [], 0⟩] scope gpos) 0 (.ref it) .none ce)), toks := s3.toks + 1 + 1 + 1 } : Shared) = s5 at I5
    have hg5 : s5.gens[s3.gens.size]? = some (.fresh (.compStart (.GeneratorExp elt [⟨tg, iter, [], 0⟩] scope gpos) 0 (.ref it) .none ce)) := by
      rw [← hs5]
      exact Array.getElem?_push_size ..
    have hz5 : s3.gens.size + 1 ≤ s5.gens.size := by
      rw [← hs5]
      exact Nat.le_of_eq (Array.size_push ..).symm
    have ht5 : tn 0 s5.heap := by rw [← hs5]; exact st5
    have wt : Waits X.prog X.w X.A.in1 s3.gens.size h'.objs.size false (fun s => ∃ H', Inv X pins σ H' s ∧ Q (.bl true) H') (fun s => ∃ H', Inv X pins σ H' s ∧ Q (.bl false) H') (m0 + 1) s5 := by
      refine ⟨gen (pl := []) I5, I5.nolimit, I5.bare, _, hg5, fun s' r => ⟨rfl, ?_⟩⟩
      have lp := loop m0 (m0 + 1) 0 s' s' H3 (Nat.lt_succ_self _) hw0 (r.inv I5) (by rw [r.heap]; exact ht5) nfp (Nat.le_trans hz5 r.size)
      show Seg (model X.prog X.w) _ _ _ _ s' _ ((compStart (.GeneratorExp elt [⟨tg, iter, [], 0⟩] scope gpos) 0 (.ref it) .none ce).onRaise (leaving ce)) [] s'
      unfold compStart
      rw [Sem.onRaise_eq_wrap]
      show Seg (model X.prog X.w) _ _ _ _ s' _ ((ask >>= _).wrap _ _ _ _) [] s'
      refine seg_bind_wrap (wpAny_askSetting ?_)
      have ts : tn 0 s'.heap := by rw [r.heap]; exact ht5
      split
      · exact seg_again rfl lp
      · first
          | exact seg_bind_wrap (wpAny_rule (seg_bind_wrap (wpAny_standAt (seg_bind_wrap (T.self _ 0 s' _ _ ts (seg_again rfl lp))))))
          | (refine seg_bind_wrap (wpAny_rule ?_); show Seg (model X.prog X.w) _ _ _ _ s' _ ((standAt iter.pos >>= _).wrap _ _ _ _) [] s'; exact seg_bind_wrap (wpAny_standAt (seg_bind_wrap (T.self _ 0 s' _ _ ts (seg_again rfl lp)))))
    refine call_function_tree PySem.F.kind_all PySem.F.plain_all PySem.F.entry_all (PySem.F.args_all1 _) ?_
    unfold Builtin.«all»
    refine wpAny_bind (m := oneArg "all" _) (wpAny_pure ?_)
    refine wpAny_bind (wpAny_pyIter_gen (gen (pl := []) I5) ?_)
    refine wpAny_pure ⟨plainId_quiet PySem.F.plain_all_loop _, codeAny_mono (all_loop hh hr.depth (mono true) (mono false) (m0 + 1) s5 wt) fun r s' hq => ?_⟩
    rcases hq with ⟨rfl, H', J, q⟩ | ⟨rfl, H', J, q⟩
    · exact ⟨.bl true, H', J, rfl, q⟩
    · exact ⟨.bl false, H', J, rfl, q⟩
  cases hf : codeAmong gpos ps.toList with
  | none =>
    refine wpAny_genexprCodeX hcode (cd.code hPs ht) (cd.tab hPs) hf fun c' h' tk hx hge hlt hco' _ htab' _ => ?_
    obtain ⟨o1, vs, f1, tf, fl, tg1, inF, tx, tt, op, _, _, _, _, _, _, _, _, _, htr, _⟩ := hco'
    exact cont _ h' tk _ (Nat.le_trans hge (Nat.le_of_lt hlt)) (fun b o hb e => hx b o hb e) htab'.2 htr
  | some cv =>
    refine wpAny_genexprCode_hit hcode (cd.code hPs ht) hf ?_
    have := cont cv s2.heap s2.toks #[] (Nat.le_refl _) (fun _ _ _ e => e) (by rw [hPs]; simp) (by simpa using ht)
    exact this
end
section
variable {prog : Program} {w : World} {A : Around} {gi : Nat} {a : Addr} {End Fin : Shared → Prop}
theorem any_loop (hh : A.handled = none) (hroom : A.depth < recursionLimit)
    (hE : ∀ s s' : Shared, End s → s'.os = s.os → AllBare s'.gens → (∀ b o, s.heap.get? b = some o → s'.heap.get? b = some o) → End s')
    (hF : ∀ s s' : Shared, Fin s → s'.os = s.os → AllBare s'.gens → (∀ b o, s.heap.get? b = some o → s'.heap.get? b = some o) → Fin s') :
    ∀ (n : Nat) (s : Shared), Waits prog w A.in1 gi a true End Fin n s →
      codeAny (model prog w) A (.builtin "any.loop" ⟨[.ref a], []⟩) (fun r s' => (r = .ok (.ret (.bool false)) ∧ End s') ∨ (r = .ok (.ret (.bool true)) ∧ Fin s')) s := by
  intro n
  induction n using Nat.strongRecOn with
  | ind n ih =>
    intro s W
    refine codeAny_builtin PySem.F.entry_any_loop ?_
    rw [Around.under_plainId PySem.F.plain_any_loop]
    show wpAny (model prog w) A.in1 (pyNext (.ref a) >>= _) _ _ s
    refine wpAny_bind (waits_next (A := A.in1) hh hroom hE hF W (fun s' e => ?_) (fun s' e => ?_) fun s' m hm W' => ?_)
    · exact wpAny_bind (wpAny_rule (wpAny_pure (.inl ⟨rfl, e⟩)))
    · refine wpAny_bind (wpAny_holding (wpAny_truthy_bool ?_))
      refine wpAny_bind (wpAny_letGo ?_)
      exact wpAny_bind (wpAny_rule (wpAny_pure (.inr ⟨rfl, e⟩)))
    · refine wpAny_bind (wpAny_holding (wpAny_truthy_bool ?_))
      refine wpAny_bind (wpAny_letGo ?_)
      exact wpAny_pure ⟨plainId_quiet PySem.F.plain_any_loop _, ih m hm s' W'⟩
end

/-! ### any(elt for target in iter) -/
/-- the reading: W by the turn and a measure; P: the def's table, which may grow -/
def tAny (P : Addr) (wi : TI) (g : TG) (te : TE) (vs : List Nat) : TE := fun σ H Q => wi σ H fun J H1 => GxR.TabG H1 P ∧ ∃ W : Nat → Nat → Hp → Prop, (∀ H2, GxR.Tabbed P H1 H2 → ∃ m, W 0 m H2) ∧ ∀ i m H, W i m H →
  (J.stop i H ∧ Q (.bl false) H) ∨ (J.go i H ∧ ∃ Nx : Hp → Prop, (∀ H', Nx H' → ∃ m', m' < m ∧ W (i + 1) m' H') ∧ ∀ x H', J.yld i H x H' → g x (wipe σ vs) H' fun σ2 H2 => wipe σ2 vs = wipe σ vs ∧
    te σ2 H2 fun y H3 => ∃ b, y = .bl b ∧ if b = false then Nx H3 else Q (.bl true) H3)
section
variable {X : Cx}
theorem pe_any {k : Nat} {c P : Addr} {elt tg iter : Expr} {scope : Scope} {own : List (Str × Nat)} {p pos gpos : Pos} {wi : TI} {g : TG} {te : TE}
    (hr : Room (k + 1) X.A) (TB : GxR.TabB X.base X.mg c P) (hcode : X.env.code = .ref c) (hc : X.calm = true) (hN : X.N.Nodup) (hG : Gl X "any") (hM : X.mg "any" = none) (hi : PI X tg iter wi) (ok : BlkOk X.N X.env.scope scope own) (gk : GnOk scope) (hdN : (".0" : Str) ∉ X.N)
    (hg : ∀ (s : Shared) (H : Hp) (A' : Around) (C : Addr) (cl : List (Str × Addr)) (code : Value) (fp : List Addr), PG (gX X s H A' (genEnv scope cl C code builtinsNs X.env) fp) tg g)
    (he : ∀ (s : Shared) (H : Hp) (A' : Around) (C : Addr) (cl : List (Str × Addr)) (code : Value) (fp : List Addr), Room k A' → PE (gX X s H A' (genEnv scope cl C code builtinsNs X.env) fp) elt te)
    (hs : ∀ v, genFold iter X.env v = pure v := by intro _; rfl)
    (hst : starEach [.GeneratorExp elt [⟨tg, iter, [], 0⟩] scope gpos] X.env = (false, eval (.GeneratorExp elt [⟨tg, iter, [], 0⟩] scope gpos) X.env) :: starEach [] X.env := by rfl) :
    PE X (.Call (.Name "any" p) [.GeneratorExp elt [⟨tg, iter, [], 0⟩] scope gpos] [] pos) (tAny P wi g te (own.map (·.2))) := by
  refine ⟨fun pins s σ H Q I h => ?_⟩
  have hh : X.A.handled = none := hr.hd
  refine wpAny_Call_Name_kw (ld_blt I hG hM PyProof.Rows.boot_any ?_)
  refine PyProof.Rows.callWith_builtin1 ?_ hst (by rfl)
  rw [hst]
  show wpAny _ _ (spliced ((false, eval (.GeneratorExp elt [⟨tg, iter, [], 0⟩] scope gpos) X.env) :: backTo pos (starEach [] X.env))) _ _ s
  have hfree : ∀ y ∈ scope.names, y.2 = .free → ∃ c, X.env.cells.lookup y.1 = some c := fun y hy e =>
    (ok.free y hy e).elim (fun k => I.ok.has _ (.inl k)) fun k => I.ok.has _ (.inr k)
  refine Calls.spliced_cons (wpAny_GeneratorExp_make gk.co (closure_ok hfree) gk.nocell gk.dot ok.kind (by have := hr.dp; omega) (thn (hi.run pins s σ H _ I h) fun xv s1 hx => thn hx fun itv s2 h2 => ?_) hs)
  obtain ⟨it, fp, tn, J, H2, e, I2, T, st2, f2, ⟨ps, hP, ht⟩, W, w0, turn⟩ := h2
  subst e
  refine ⟨I2.nolimit, ?_⟩
  have hPs : s2.heap.get? P = some { cls := .none, data := .fields ps } := I2.hok P _ hP
  have cd : PySem.W.CodeHd s2.heap c P := TB.code.keeps fun b u e => I2.bk b u e
  have sz2 : ∀ b ∈ fp, b < s2.heap.objs.size := fun b hb => by
    obtain ⟨o, e, _⟩ := T.obj _ _ st2 b hb
    exact Heap.lt_size e
  have nfP : ∀ b ∈ fp, b ≠ P := fun b hb z => by
    have q := (f2 b hb).1
    rw [z, hP] at q
    cases q
  -- behind the table
  have cont : ∀ (code : Value) (h3 : Heap) (tk : Nat) (more : Array Value), s2.heap.objs.size ≤ h3.objs.size → (∀ b o, b ≠ P → s2.heap.get? b = some o → h3.get? b = some o) → h3.get? P = some { cls := .none, data := .fields (ps ++ more) } → TriplesOk (ps ++ more).toList →
      wpAny (model X.prog X.w) X.A (builtinsFor X.env.globals X.env.builtins) (fun bi s4 => ∀ h', h'.Ns s4.heap.objs.size (fun y => if y = ".0" then some (.ref it) else none) → Heap.SameBut s4.heap.objs.size (s4.heap.push { cls := .type "frame", data := .dict #[] }) h' →
        wpAny (model X.prog X.w) X.A (spliced (backTo pos (starEach [] X.env))) (fun vs s5 => wpAny (model X.prog X.w) X.A (call (.builtin "any") (.ref h'.objs.size :: vs)) (EP X pins σ Q) X.xe s5) X.xe { s4 with
            gens := s4.gens.push (.fresh (.compStart (.GeneratorExp elt [⟨tg, iter, [], 0⟩] scope gpos) 0 (.ref it) .none (genEnv scope (cloFrom X.env.cells scope.names []) s4.heap.objs.size code bi X.env))), toks := s4.toks + 1 + 1 + 1,
            heap := h'.push { cls := .type "generator", data := .fields #[.int s4.gens.size 0, .str "<genexpr>" (s4.toks + 1), .str (X.env.qual ++ "<genexpr>") (s4.toks + 1 + 1)] } }) X.xe { s2 with heap := h3, toks := tk } := by
    intro code h3 tk more hle3 hk3 hP3 ht3
    have I3 : Inv X pins σ (upd H2 P (.tbl (ps ++ more))) { s2 with heap := h3, gens := s2.gens, drawn := s2.drawn, toks := tk } := GxR.inv_tab I2 hP hk3 hP3 I2.bare
    have tab3 : GxR.Tabbed P H2 (upd H2 P (.tbl (ps ++ more))) := ⟨⟨_, upd_same, ht3⟩, fun b hb => upd_ne hb⟩
    have st3 : tn 0 h3 := T.keep _ _ _ st2 fun b hb o e => hk3 b o (nfP b hb) e
    have f3 : ∀ b ∈ fp, FpOk X pins (upd H2 P (.tbl (ps ++ more))) b := fun b hb => ⟨by rw [upd_ne (nfP b hb)]; exact (f2 b hb).1, (f2 b hb).2⟩
    generalize upd H2 P (.tbl (ps ++ more)) = H3 at I3 tab3 f3
    obtain ⟨m0, hw0⟩ := w0 H3 tab3
    have sz3 : ∀ b ∈ fp, b < h3.objs.size := fun b hb => Nat.lt_of_lt_of_le (sz2 b hb) hle3
    have hs3 : ({ s2 with heap := h3, gens := s2.gens, drawn := s2.drawn, toks := tk } : Shared) = { s2 with heap := h3, toks := tk } := rfl
    rw [hs3] at I3
    generalize hsh : ({ s2 with heap := h3, toks := tk } : Shared) = s3 at I3 ⊢
    have eh : h3 = s3.heap := by rw [← hsh]
    rw [eh] at st3 sz3
    clear hsh hs3 eh hP3 hk3 hle3
    obtain ⟨bm, ob, e1, e2, e3, e4, e5, e6, e7, e8⟩ := TB.bm
    refine wpAny_builtinsFor (m := X.mg) (by rw [I3.ok.glob]; exact I3.mod.glob.keeps I3.bk) e1 e2 (I3.bk _ _ e5) e6 e7 e8 ?_
    intro h' hn' hs'
    refine Calls.spliced_nil ?_
    have hsz : h'.objs.size = s3.heap.objs.size + 1 := by rw [hs'.1, Heap.size_push]
    generalize hgo : ({ cls := .type "generator", data := .fields #[.int s3.gens.size 0, .str "<genexpr>" (s3.toks + 1), .str (X.env.qual ++ "<genexpr>") (s3.toks + 1 + 1)] } : Obj) = go
    have kp5 : ∀ b o, s3.heap.get? b = some o → (h'.push go).get? b = some o := fun b o e => Heap.get?_push_of_some _ (hs'.extBut b o (Nat.ne_of_lt (Heap.lt_size e)) (Heap.get?_push_of_some _ e))
    generalize hce : genEnv scope (cloFrom X.env.cells scope.names []) s3.heap.objs.size code builtinsNs X.env = ce
    have hhA : (X.A.in1.in1.over (.compLoop (.GeneratorExp elt [⟨tg, iter, [], 0⟩] scope gpos) 0 (.ref it) .none ce) []).handled = none := hh
    have hFr : (X.A.in1.in1.over (.compLoop (.GeneratorExp elt [⟨tg, iter, [], 0⟩] scope gpos) 0 (.ref it) .none ce) []).frames = some (ce :: X.stack) := by
      show pushEnvs [ce] (pushEnvs [] X.A.frames) = _
      rw [I3.ok.frames]
      rfl
    have hRm : Room k (X.A.in1.in1.over (.compLoop (.GeneratorExp elt [⟨tg, iter, [], 0⟩] scope gpos) 0 (.ref it) .none ce) []) := by
      have z1 := hr.dp
      have z2 := hr.un
      refine ⟨hhA, ?_, ?_⟩
      · show X.A.depth + 0 + 1 + 3 * k + 5 < recursionLimit
        omega
      · show X.A.units + 1 + 1 + 0 + 3 + 16 * k + 200 < cLine
        omega
    generalize hAg : X.A.in1.in1.over (.compLoop (.GeneratorExp elt [⟨tg, iter, [], 0⟩] scope gpos) 0 (.ref it) .none ce) [] = Ag at hhA hFr hRm
    have I5 : Inv (gX X s3 H3 Ag ce fp) [(h'.objs.size, go)] (wipe σ (own.map (·.2))) H3 { s3 with heap := h'.push go, gens := s3.gens.push (.fresh (.compStart (.GeneratorExp elt [⟨tg, iter, [], 0⟩] scope gpos) 0 (.ref it) .none ce)), toks := s3.toks + 1 + 1 + 1 } := by
      have q := gen_start (code := code) (A' := Ag) (h5 := h'.push go) (g5 := s3.gens.push (.fresh (.compStart (.GeneratorExp elt [⟨tg, iter, [], 0⟩] scope gpos) 0 (.ref it) .none ce))) (t5 := s3.toks + 1 + 1 + 1) (go := go) I3 ok gk hN (fun b hb => ⟨f3 b hb, sz3 b hb⟩) hhA (by rw [hce]; exact hFr) kp5 (hn'.push _)
        (fun x hx => if_neg hx) hdN (I3.bare.push rfl) (a := h'.objs.size) (by omega) (Heap.get?_push_size _ (by rw [← hgo]; rfl)) (by rw [← hgo]; intro v z; cases z)
      rw [hce] at q
      exact q
    have st5 : tn 0 (h'.push go) := T.keep _ _ _ st3 fun b _ o e => kp5 b o e
    have nfp : ∀ b ∈ fp, H3 b = none := fun b hb => (f3 b hb).1
    have pg := hg s3 H3 Ag s3.heap.objs.size (cloFrom X.env.cells scope.names []) code fp
    have pe := he s3 H3 Ag s3.heap.objs.size (cloFrom X.env.cells scope.names []) code fp hRm
    rw [hce] at pg pe
    have cCo : ce.scope.isCoroutine = false := by rw [← hce]; exact gk.co
    clear hn' hs' kp5 w0 hce
    -- back in the def's context
    have back : ∀ {σ' : L2.St} {H' : Hp} {s' : Shared} {pl : List (Addr × Obj)}, Inv (gX X s3 H3 Ag ce fp) pl σ' H' s' → Inv X pins σ H' s' := fun {σ' H' s' pl} J => I3.call' (ch := fp) J.os J.base J.hok J.bare fun b hb =>
      ⟨(f3 b hb).2.2.2.1, (f3 b hb).2.1, (f3 b hb).2.2.2.2.1, (f3 b hb).2.2.2.2.2⟩
    have stat : ∀ {σ' : L2.St} {H' : Hp} {s' : Shared}, Inv (gX X s3 H3 Ag ce fp) [(h'.objs.size, go)] σ' H' s' → (∀ b ∈ fp, H' b = none) → ∀ b ∈ fp, FpOk (gX X s3 H3 Ag ce fp) [(h'.objs.size, go)] H' b := fun {σ' H' s'} J hn b hb =>
      ⟨hn b hb, (J.ok.exf b hb).1, J.ok.exfs b hb, .inl hb, fun x c e => (J.ok.exf b hb).2 x c e, fun p hp => by
        have hp : p = (h'.objs.size, go) := by simpa using hp
        rw [hp]
        exact Nat.ne_of_gt (Nat.lt_trans (sz3 b hb) (by rw [hsz]; exact Nat.lt_succ_self _))⟩
    have gen : ∀ {σ' : L2.St} {H' : Hp} {s' : Shared} {pl : List (Addr × Obj)}, Inv (gX X s3 H3 Ag ce fp) ([(h'.objs.size, go)] ++ pl) σ' H' s' → s'.heap.IsGen h'.objs.size s3.gens.size := fun {σ' H' s' pl} J => by
      have q := (J.pin (h'.objs.size, go) (by simp)).1
      exact ⟨go, _, _, q, by rw [← hgo], by rw [← hgo], by rw [← hgo]⟩
    -- the turns
    have loop : ∀ (m n i : Nat) (s₀ s : Shared) (H : Hp), m < n → W i m H → Inv (gX X s3 H3 Ag ce fp) [(h'.objs.size, go)] (wipe σ (own.map (·.2))) H s → tn i s.heap → (∀ b ∈ fp, H b = none) → s3.gens.size + 1 ≤ s.gens.size →
        Seg (model X.prog X.w) X.A.in1.in1 (fun n s₀ r s₁ => r = .ok .next ∧ gR (fun s => ∃ H', Inv X pins σ H' s ∧ Q (.bl false) H') n s₀ s₁) (gY s3.gens.size h'.objs.size true fun s => ∃ H', Inv X pins σ H' s ∧ Q (.bl true) H') n s₀
          (.compLoop (.GeneratorExp elt [⟨tg, iter, [], 0⟩] scope gpos) 0 (.ref it) .none ce) ((model X.prog X.w).den (.compLoop (.GeneratorExp elt [⟨tg, iter, [], 0⟩] scope gpos) 0 (.ref it) .none ce)) [] s := by
      intro m
      induction m using Nat.strongRecOn with
      | ind m ih =>
        intro n i s₀ s H hmn w J st nf hz
        show Seg (model X.prog X.w) _ _ _ n s₀ _ ((compTurn (.GeneratorExp elt [⟨tg, iter, [], 0⟩] scope gpos) 0 (.ref it) .none ce).onRaise (leaving ce)) [] s
        rw [compTurn_gen]
        rw [Sem.onRaise_eq_wrap]
        refine seg_bind_wrap (wpAny_standAt (seg_bind_wrap ?_))
        rw [hAg]
        rcases turn i m H w with ⟨stp, qq⟩ | ⟨go', Nx, hNx, step⟩
        · refine thnF (T.done (gX X s3 H3 Ag ce fp) rfl rfl rfl hc i _ s _ H (fun _ _ => False) J (stat J nf) st stp) fun r s6 ⟨hr6, J6⟩ => ?_
          subst hr6
          exact seg_end (.ok .next) ⟨rfl, J6.bare, H, back J6, qq⟩
        · refine GenW.wpAny_gsz hz (thnF (T.item (gX X s3 H3 Ag ce fp) rfl rfl rfl hc i _ s _ H (fun _ _ => False) J (stat J nf) st go') fun r s6 ⟨u, hr6, h6⟩ hz6 => ?_)
          subst hr6
          refine seg_bind_wrap ?_
          rw [hAg]
          refine GenW.wpAny_gsz hz6 (thnF h6 fun _ s7 ⟨x, H7, J7, r7, y7, st7, n7⟩ hz7 => ?_)
          have J7' := J7.pinned (stat J7 n7) (T.obj _ _ st7)
          refine seg_bind_wrap ?_
          rw [hAg]
          refine GenW.wpAny_gsz hz7 (thnF (pg.run _ s7 _ H7 x u _ J7' r7 (step x H7 y7)) fun _ s8 ⟨σ8, H8, J8, hw8, q8⟩ hz8 => ?_)
          simp only [List.forIn_nil]
          refine seg_bind_wrap (wpAny_pure ?_)
          simp only [if_true]
          have hy : ∀ v, yieldOut ce v = yieldValue v := fun v => by simp only [yieldOut, cCo, Bool.false_eq_true, if_false]
          simp only [hy]
          rw [Sem.bind_eq_wrap', Sem.bind_eq_wrap']
          rw [Sem.wrap_wrap, Sem.wrap_wrap]
          refine seg_wrap ?_
          rw [hAg]
          refine GenW.wpAny_gsz hz8 (thnF (pe.run _ s8 σ8 H8 _ J8 q8) fun z s9 ⟨yv, H9, J9, r9, b, eb, qb⟩ hz9 => ?_)
          subst eb
          obtain rfl : z = Value.bool b := r9
          obtain ⟨n', rfl⟩ : ∃ n', n = n' + 1 := ⟨n - 1, by omega⟩
          refine seg_at (seg_yield rfl rfl rfl ⟨b, rfl, gen J9, J9.nolimit, J9.bare, hz9, fun e => ?_, fun e s' r => ?_⟩)
          · subst e
            exact ⟨H9, back J9, qb⟩
          · have e : b = false := by
              cases b with
              | false => rfl
              | true => exact absurd rfl e
            subst e
            rw [if_pos rfl] at qb
            obtain ⟨m', hm', w'⟩ := hNx H9 qb
            have pin' : ∀ b ∈ fp, ∀ o, s7.heap.get? b = some o → s9.heap.get? b = some o ∧ H9 b = none := fun b hb o e =>
              let z := J9.pin (b, o) (List.mem_append_right _ (List.mem_append_right _ (mem_pinsAt hb e)))
              ⟨z.1, z.2.1⟩
            have hl : (wipe σ (own.map (·.2))).length = σ8.length := by rw [← hw8, wipe_length]
            have K9 : Inv (gX X s3 H3 Ag ce fp) [(h'.objs.size, go)] (wipe σ (own.map (·.2))) H9 s9 := J9.unpinned.weak hl fun j v e => by
              rw [← hw8] at e
              exact (wipe_some e).1
            refine seg_again rfl (ih m' hm' n' (i + 1) s' s' H9 (by omega) w' (r.inv K9) ?_ (fun b hb => ?_) (Nat.le_trans hz9 r.size))
            · rw [r.heap]
              exact T.keep _ _ _ st7 fun b hb o e => (pin' b hb o e).1
            · obtain ⟨o, e, _⟩ := T.obj _ _ st7 b hb
              exact (pin' b hb o e).2
    have mono : ∀ (b : Bool) (s s' : Shared), (∃ H', Inv X pins σ H' s ∧ Q (.bl b) H') → s'.os = s.os → AllBare s'.gens → (∀ b o, s.heap.get? b = some o → s'.heap.get? b = some o) → ∃ H', Inv X pins σ H' s' ∧ Q (.bl b) H' := fun b s s' ⟨H', J, q⟩ h1 h2 h3 =>
      ⟨H', inv_gens (J.kept (t' := s'.toks) h3) rfl h1 h2, q⟩
    generalize hs5 : ({ s3 with heap := h'.push go, gens := s3.gens.push (.fresh (.compStart (.GeneratorExp elt [⟨tg, iter, [], 0⟩] scope gpos) 0 (.ref it) .none ce)), toks := s3.toks + 1 + 1 + 1 } : Shared) = s5 at I5
    have hg5 : s5.gens[s3.gens.size]? = some (.fresh (.compStart (.GeneratorExp elt [⟨tg, iter, [], 0⟩] scope gpos) 0 (.ref it) .none ce)) := by
      rw [← hs5]
      exact Array.getElem?_push_size ..
    have hz5 : s3.gens.size + 1 ≤ s5.gens.size := by
      rw [← hs5]
      exact Nat.le_of_eq (Array.size_push ..).symm
    have ht5 : tn 0 s5.heap := by rw [← hs5]; exact st5
    have wt : Waits X.prog X.w X.A.in1 s3.gens.size h'.objs.size true (fun s => ∃ H', Inv X pins σ H' s ∧ Q (.bl false) H') (fun s => ∃ H', Inv X pins σ H' s ∧ Q (.bl true) H') (m0 + 1) s5 := by
      refine ⟨gen (pl := []) I5, I5.nolimit, I5.bare, _, hg5, fun s' r => ⟨rfl, ?_⟩⟩
      have lp := loop m0 (m0 + 1) 0 s' s' H3 (Nat.lt_succ_self _) hw0 (r.inv I5) (by rw [r.heap]; exact ht5) nfp (Nat.le_trans hz5 r.size)
      show Seg (model X.prog X.w) _ _ _ _ s' _ ((compStart (.GeneratorExp elt [⟨tg, iter, [], 0⟩] scope gpos) 0 (.ref it) .none ce).onRaise (leaving ce)) [] s'
      unfold compStart
      rw [Sem.onRaise_eq_wrap]
      show Seg (model X.prog X.w) _ _ _ _ s' _ ((ask >>= _).wrap _ _ _ _) [] s'
      refine seg_bind_wrap (wpAny_askSetting ?_)
      have ts : tn 0 s'.heap := by rw [r.heap]; exact ht5
      split
      · exact seg_again rfl lp
      · first
          | exact seg_bind_wrap (wpAny_rule (seg_bind_wrap (wpAny_standAt (seg_bind_wrap (T.self _ 0 s' _ _ ts (seg_again rfl lp))))))
          | (refine seg_bind_wrap (wpAny_rule ?_); show Seg (model X.prog X.w) _ _ _ _ s' _ ((standAt iter.pos >>= _).wrap _ _ _ _) [] s'; exact seg_bind_wrap (wpAny_standAt (seg_bind_wrap (T.self _ 0 s' _ _ ts (seg_again rfl lp)))))
    refine call_function_tree PySem.F.kind_any PySem.F.plain_any PySem.F.entry_any (PySem.F.args_any1 _) ?_
    unfold Builtin.«any»
    refine wpAny_bind (m := oneArg "any" _) (wpAny_pure ?_)
    refine wpAny_bind (wpAny_pyIter_gen (gen (pl := []) I5) ?_)
    refine wpAny_pure ⟨plainId_quiet PySem.F.plain_any_loop _, codeAny_mono (any_loop hh hr.depth (mono false) (mono true) (m0 + 1) s5 wt) fun r s' hq => ?_⟩
    rcases hq with ⟨rfl, H', J, q⟩ | ⟨rfl, H', J, q⟩
    · exact ⟨.bl false, H', J, rfl, q⟩
    · exact ⟨.bl true, H', J, rfl, q⟩
  cases hf : codeAmong gpos ps.toList with
  | none =>
    refine wpAny_genexprCodeX hcode (cd.code hPs ht) (cd.tab hPs) hf fun c' h' tk hx hge hlt hco' _ htab' _ => ?_
    obtain ⟨o1, vs, f1, tf, fl, tg1, inF, tx, tt, op, _, _, _, _, _, _, _, _, _, htr, _⟩ := hco'
    exact cont _ h' tk _ (Nat.le_trans hge (Nat.le_of_lt hlt)) (fun b o hb e => hx b o hb e) htab'.2 htr
  | some cv =>
    refine wpAny_genexprCode_hit hcode (cd.code hPs ht) hf ?_
    have := cont cv s2.heap s2.toks #[] (Nat.le_refl _) (fun _ _ _ e => e) (by rw [hPs]; simp) (by simpa using ht)
    exact this
end
/-! ### sum(..) of a generator, told by what each turn does -/
def HoldsZ (S : Addr) (s : Shared) (z : Int) : Prop := ∃ t c, s.heap.get? S = some { cls := .type "list", dict := none, data := .seq #[.int z t] c, slots := #[] }
theorem HoldsZ.inj {S : Addr} {s : Shared} {y z : Int} (h : HoldsZ S s y) (g : HoldsZ S s z) : y = z := by
  obtain ⟨t, c, h⟩ := h
  obtain ⟨t', c', g⟩ := g
  rw [h] at g
  have e := Option.some.inj g
  have e2 : (#[Value.int y t] : Array Value) = #[Value.int z t'] := by
    injection e with _ _ e3 _
    injection e3
  have e4 := congrArg (fun a : Array Value => a[0]?) e2
  simp at e4
  exact e4.1
/-- between a yield and the next turn: the total is told anew -/
structure RsS (S : Addr) (s s' : Shared) : Prop where
  keep : ∀ b o, b ≠ S → s.heap.get? b = some o → s'.heap.get? b = some o
  os : s'.os = s.os
  bare : AllBare s'.gens
  size : s.gens.size ≤ s'.gens.size
theorem RsS.inv {X : Cx} {pins : List (Addr × Obj)} {σ : L2.St} {H : Hp} {s s' : Shared} {S : Addr} (r : RsS S s s') (I : Inv X pins σ H s) (f : FpOk X pins H S) : Inv X pins σ H s' := by
  have J := I.turnedL (h' := s'.heap) (t' := s'.toks) (ch := [S]) (fun b o hb e => r.keep b o (fun z => hb (by rw [z]; simp)) e) (fun b hb => by rw [List.mem_singleton.mp hb]; exact f)
  exact inv_gens J rfl r.os r.bare
def gYs (gi : Nat) (a S : Addr) : Protocol := fun _ s₀ v s kap =>
  ∃ y t, v = .int y t ∧ s.heap.get? S = s₀.heap.get? S ∧ AllBare s.gens ∧ gi < s.gens.size ∧ (∀ z s', HoldsZ S s₀ z → RsS S s s' → HoldsZ S s' (z + y) → s'.heap.NoLimit ∧ s'.heap.IsGen a gi ∧ kap (.send .none) s')
def gRs (S : Addr) (Fin : Int → Shared → Prop) : Nat → Shared → Shared → Prop := fun _ s₀ s => AllBare s.gens ∧ ∀ z, HoldsZ S s₀ z → Fin z s
/-- the generator waits -/
def WaitsS (prog : Program) (w : World) (A : Around) (gi : Nat) (a S : Addr) (Fin : Int → Shared → Prop) (n : Nat) (s : Shared) : Prop :=
  s.heap.IsGen a gi ∧ s.heap.NoLimit ∧ AllBare s.gens ∧ ∃ gs, s.gens[gi]? = some gs ∧
    ∀ s', Rs s s' → gs.Goes (model prog w) A.in1 (fun n s₀ r s₁ => r = .ok .next ∧ gRs S Fin n s₀ s₁) (gYs gi a S) n (.send .none) s'
section
variable {prog : Program} {w : World} {A : Around} {gi : Nat} {a S : Addr} {Fin : Int → Shared → Prop}
theorem HoldsZ.of {s s' : Shared} {z : Int} (h : HoldsZ S s z) (e : s'.heap = s.heap) : HoldsZ S s' z := by
  obtain ⟨t, c, h⟩ := h
  exact ⟨t, c, by rw [e]; exact h⟩
theorem waitsS_next {n : Nat} {s : Shared} {Q : Option Value → Shared → Prop} {E : Value → Shared → Prop} (hh : A.handled = none) (hroom : A.depth < recursionLimit)
    (hF : ∀ z, ∀ s s' : Shared, Fin z s → s'.os = s.os → AllBare s'.gens → (∀ b o, s.heap.get? b = some o → s'.heap.get? b = some o) → Fin z s')
    (hz0 : ∃ z, HoldsZ S s z) (W : WaitsS prog w A gi a S Fin n s) (hN : ∀ s', (∀ z, HoldsZ S s z → Fin z s') → Q none s')
    (hG : ∀ s' y t m, m < n → s'.heap.get? S = s.heap.get? S → AllBare s'.gens → (∀ z s'', HoldsZ S s z → RsS S s' s'' → s''.gens = s'.gens → HoldsZ S s'' (z + y) → WaitsS prog w A gi a S Fin m s'') → Q (some (.int y t)) s') : wpAny (model prog w) A (pyNext (.ref a)) Q E s := by
  obtain ⟨hg, hl, hb, gs, hgs, hgo⟩ := W
  refine wpAny_pyNext_genexpQ (P := gRs S Fin) (Y := gYs gi a S) hh hl hroom hg hgs (hgo _ (Rs.set hb rfl)) (fun v s₁ gs' hb' hv => ?_) fun s₁ hp h' hk => ?_
  · obtain ⟨y, t, rfl, hS, b1, z1, k1⟩ := hv
    cases n with
    | zero =>
      obtain ⟨z, tt, c, hz⟩ := hz0
      have hz1 : s₁.heap.get? S = _ := hS.trans hz
      exact False.elim (k1 z { s₁ with heap := s₁.heap.update S (Obj.mapSeq fun _ => #[.int (z + y) 0]) } ⟨tt, c, hz⟩ ⟨fun b o hb e => (Heap.get?_update_other _ _ (Ne.symm hb)).trans e, rfl, b1, Nat.le_refl _⟩ ⟨_, _, Heap.get?_update_self _ hz1 rfl⟩).2.2
    | succ m =>
      refine hG _ y t m (Nat.lt_succ_self m) hS (bare_set b1 hb') fun z s'' hz r eg hz' => ?_
      have r1 : RsS S s₁ s'' := ⟨r.keep, r.os, r.bare, Nat.le_trans (Nat.le_of_eq (GenW.setGen_size s₁ gi gs').symm) r.size⟩
      obtain ⟨l2, g2, _⟩ := k1 z s'' (hz.of rfl) r1 hz'
      refine ⟨g2, l2, r.bare, gs', ?_, fun s3 r3 => (k1 z s3 (hz.of rfl) ⟨fun b o hb e => by rw [r3.heap]; exact r.keep b o hb e, r3.os.trans r.os, r3.bare, Nat.le_trans r1.size r3.size⟩ (hz'.of r3.heap)).2.2⟩
      rw [eg]
      show (s₁.gens.setIfInBounds gi gs')[gi]? = some gs'
      rw [Array.getElem?_setIfInBounds_self_of_lt z1]
  · obtain ⟨b1, e1⟩ := hp
    exact hN _ fun z hz => hF z _ _ (e1 z (hz.of rfl)) rfl (bare_set b1 rfl) fun b o q => hk b o q
theorem sum_loopS (hh : A.handled = none) (hroom : A.depth < recursionLimit)
    (hF : ∀ z, ∀ s s' : Shared, Fin z s → s'.os = s.os → AllBare s'.gens → (∀ b o, s.heap.get? b = some o → s'.heap.get? b = some o) → Fin z s') :
    ∀ (n : Nat) (s : Shared) (st z : Int), (st = 0 ∨ st = 2) → HoldsZ S s z → WaitsS prog w A.in1 gi a S Fin n s →
      codeAny (model prog w) A (.builtin "sum.loop" ⟨[.ref a, .ref S, rawInt st, rawInt 0], []⟩) (fun r s' => ∃ z t, r = .ok (.ret (.int z t)) ∧ Fin z s') s := by
  intro n
  induction n using Nat.strongRecOn with
  | ind n ih =>
    intro s st z hst hz W
    have hz0 := hz
    obtain ⟨tA, c, hS⟩ := hz
    refine codeAny_builtin PySem.F.entry_sum_loop ?_
    rw [Around.under_plainId PySem.F.plain_sum_loop _]
    show wpAny _ A.in1 (seqItems? (.ref S) >>= _) _ _ s
    refine wpAny_bind (wpAny_seqItems hS rfl ?_)
    show wpAny _ A.in1 (tryCatch (pyNext (.ref a)) _ >>= _) _ _ s
    refine wpAny_bind (wpAny_tryCatch (waitsS_next (A := A.in1) hh hroom hF ⟨z, hz0⟩ W (fun s' e => ?_) fun s' y t m hm eS bS W' => ?_))
    · exact wpAny_pure ⟨z, tA, rfl, e z hz0⟩
    have hS' := eS.trans hS
    rcases hst with rfl | rfl
    · show wpAny _ A.in1 (if (_ : Bool) = true then (mkInt (z + y) >>= _) else _) _ _ _
      split
      · refine wpAny_bind (wpAny_mkInt ?_)
        show wpAny _ A.in1 (updateSeq S (fun _ => #[.int (z + y) s'.toks]) >>= _) _ _ _
        refine wpAny_bind ?_
        have hS2 := Heap.get?_update_self (Obj.mapSeq fun _ => #[Value.int (z + y) s'.toks]) hS' rfl
        refine wpAny_updateSeq hS' rfl (wpAny_pure ⟨plainId_quiet PySem.F.plain_sum_loop _, ih m hm _ 0 (z + y) (.inl rfl) ⟨_, _, hS2⟩ (W' z _ hz0 ⟨fun b o hb e => (Heap.get?_update_other _ _ (Ne.symm hb)).trans e, rfl, bS, Nat.le_refl _⟩ rfl ⟨_, _, hS2⟩)⟩)
      · refine wpAny_bind (wpAny_rule ?_)
        refine wpAny_bind (wpAny_attempt (wpAny_holding (wpAny_add_int ?_)))
        show wpAny _ A.in1 (updateSeq S (fun _ => #[.int (z + y) s'.toks]) >>= _) _ _ _
        refine wpAny_bind (wpAny_updateSeq hS' rfl ?_)
        have hS₂ := Heap.get?_update_self (Obj.mapSeq fun _ => #[Value.int (z + y) s'.toks]) hS' rfl
        refine wpAny_bind (wpAny_letGo ?_)
        have hS₃ := Heap.get?_update_self (Obj.mapSeq fun _ => #[Value.int (z + y) s'.toks]) hS₂ rfl
        refine wpAny_bind (wpAny_updateSeq hS₂ rfl (wpAny_pure ⟨plainId_quiet PySem.F.plain_sum_loop _, ih m hm _ 2 (z + y) (.inr rfl) ⟨_, _, hS₃⟩ (W' z _ hz0 ⟨fun b o hb e => (Heap.get?_update_other _ _ (Ne.symm hb)).trans ((Heap.get?_update_other _ _ (Ne.symm hb)).trans e), rfl, bS, Nat.le_refl _⟩ rfl ⟨_, _, hS₃⟩)⟩))
    · show wpAny _ A.in1 ((holding [Value.int y t] (binaryOp .Add (.int z tA) (.int y t))).attempt >>= _) _ _ _
      refine wpAny_bind (wpAny_attempt (wpAny_holding (wpAny_add_int ?_)))
      show wpAny _ A.in1 (updateSeq S (fun _ => #[.int (z + y) s'.toks]) >>= _) _ _ _
      refine wpAny_bind (wpAny_updateSeq hS' rfl ?_)
      have hS₂ := Heap.get?_update_self (Obj.mapSeq fun _ => #[Value.int (z + y) s'.toks]) hS' rfl
      refine wpAny_bind (wpAny_letGo ?_)
      have hS₃ := Heap.get?_update_self (Obj.mapSeq fun _ => #[Value.int (z + y) s'.toks]) hS₂ rfl
      refine wpAny_bind (wpAny_updateSeq hS₂ rfl (wpAny_pure ⟨plainId_quiet PySem.F.plain_sum_loop _, ih m hm _ 2 (z + y) (.inr rfl) ⟨_, _, hS₃⟩ (W' z _ hz0 ⟨fun b o hb e => (Heap.get?_update_other _ _ (Ne.symm hb)).trans ((Heap.get?_update_other _ _ (Ne.symm hb)).trans e), rfl, bS, Nat.le_refl _⟩ rfl ⟨_, _, hS₃⟩)⟩))
end
/-! ### sum(elt for target in iter) -/
/-- the reading: W by the turn, a measure and the total; P: the def's table, which may grow -/
def tSum (P : Addr) (wi : TI) (g : TG) (te : TE) (vs : List Nat) : TE := fun σ H Q => wi σ H fun J H1 => GxR.TabG H1 P ∧ ∃ W : Nat → Nat → Int → Hp → Prop, (∀ H2, GxR.Tabbed P H1 H2 → ∃ m, W 0 m 0 H2) ∧ ∀ i m z H, W i m z H →
  (J.stop i H ∧ Q (.int z) H) ∨ (J.go i H ∧ ∃ Nx : Int → Hp → Prop, (∀ y H', Nx y H' → ∃ m', m' < m ∧ W (i + 1) m' (z + y) H') ∧ ∀ x H', J.yld i H x H' → g x (wipe σ vs) H' fun σ2 H2 => wipe σ2 vs = wipe σ vs ∧
    te σ2 H2 fun v H3 => ∃ y, v = .int y ∧ Nx y H3)
section
variable {X : Cx}
theorem pe_sum {k : Nat} {c P : Addr} {elt tg iter : Expr} {scope : Scope} {own : List (Str × Nat)} {p pos gpos : Pos} {wi : TI} {g : TG} {te : TE}
    (hr : Room (k + 1) X.A) (TB : GxR.TabB X.base X.mg c P) (hcode : X.env.code = .ref c) (hc : X.calm = true) (hN : X.N.Nodup) (hG : Gl X "sum") (hM : X.mg "sum" = none) (hi : PI X tg iter wi) (ok : BlkOk X.N X.env.scope scope own) (gk : GnOk scope) (hdN : (".0" : Str) ∉ X.N)
    (hg : ∀ (s : Shared) (H : Hp) (A' : Around) (C : Addr) (cl : List (Str × Addr)) (code : Value) (fp : List Addr), PG (gX X s H A' (genEnv scope cl C code builtinsNs X.env) fp) tg g)
    (he : ∀ (s : Shared) (H : Hp) (A' : Around) (C : Addr) (cl : List (Str × Addr)) (code : Value) (fp : List Addr), Room k A' → PE (gX X s H A' (genEnv scope cl C code builtinsNs X.env) fp) elt te)
    (hs : ∀ v, genFold iter X.env v = pure v := by intro _; rfl)
    (hst : starEach [.GeneratorExp elt [⟨tg, iter, [], 0⟩] scope gpos] X.env = (false, eval (.GeneratorExp elt [⟨tg, iter, [], 0⟩] scope gpos) X.env) :: starEach [] X.env := by rfl) :
    PE X (.Call (.Name "sum" p) [.GeneratorExp elt [⟨tg, iter, [], 0⟩] scope gpos] [] pos) (tSum P wi g te (own.map (·.2))) := by
  refine ⟨fun pins s σ H Q I h => ?_⟩
  have hh : X.A.handled = none := hr.hd
  refine wpAny_Call_Name_kw (ld_blt I hG hM PyProof.Rows.boot_sum ?_)
  refine PyProof.Rows.callWith_builtin1 ?_ hst (by rfl)
  rw [hst]
  show wpAny _ _ (spliced ((false, eval (.GeneratorExp elt [⟨tg, iter, [], 0⟩] scope gpos) X.env) :: backTo pos (starEach [] X.env))) _ _ s
  have hfree : ∀ y ∈ scope.names, y.2 = .free → ∃ c, X.env.cells.lookup y.1 = some c := fun y hy e =>
    (ok.free y hy e).elim (fun k => I.ok.has _ (.inl k)) fun k => I.ok.has _ (.inr k)
  refine Calls.spliced_cons (wpAny_GeneratorExp_make gk.co (closure_ok hfree) gk.nocell gk.dot ok.kind (by have := hr.dp; omega) (thn (hi.run pins s σ H _ I h) fun xv s1 hx => thn hx fun itv s2 h2 => ?_) hs)
  obtain ⟨it, fp, tn, J, H2, e, I2, T, st2, f2, ⟨ps, hP, ht⟩, W, w0, turn⟩ := h2
  subst e
  refine ⟨I2.nolimit, ?_⟩
  have hPs : s2.heap.get? P = some { cls := .none, data := .fields ps } := I2.hok P _ hP
  have cd : PySem.W.CodeHd s2.heap c P := TB.code.keeps fun b u e => I2.bk b u e
  have sz2 : ∀ b ∈ fp, b < s2.heap.objs.size := fun b hb => by
    obtain ⟨o, e, _⟩ := T.obj _ _ st2 b hb
    exact Heap.lt_size e
  have nfP : ∀ b ∈ fp, b ≠ P := fun b hb z => by
    have q := (f2 b hb).1
    rw [z, hP] at q
    cases q
  -- behind the table
  have cont : ∀ (code : Value) (h3 : Heap) (tk : Nat) (more : Array Value), s2.heap.objs.size ≤ h3.objs.size → (∀ b o, b ≠ P → s2.heap.get? b = some o → h3.get? b = some o) → h3.get? P = some { cls := .none, data := .fields (ps ++ more) } → TriplesOk (ps ++ more).toList →
      wpAny (model X.prog X.w) X.A (builtinsFor X.env.globals X.env.builtins) (fun bi s4 => ∀ h', h'.Ns s4.heap.objs.size (fun y => if y = ".0" then some (.ref it) else none) → Heap.SameBut s4.heap.objs.size (s4.heap.push { cls := .type "frame", data := .dict #[] }) h' →
        wpAny (model X.prog X.w) X.A (spliced (backTo pos (starEach [] X.env))) (fun vs s5 => wpAny (model X.prog X.w) X.A (call (.builtin "sum") (.ref h'.objs.size :: vs)) (EP X pins σ Q) X.xe s5) X.xe { s4 with
            gens := s4.gens.push (.fresh (.compStart (.GeneratorExp elt [⟨tg, iter, [], 0⟩] scope gpos) 0 (.ref it) .none (genEnv scope (cloFrom X.env.cells scope.names []) s4.heap.objs.size code bi X.env))), toks := s4.toks + 1 + 1 + 1,
            heap := h'.push { cls := .type "generator", data := .fields #[.int s4.gens.size 0, .str "<genexpr>" (s4.toks + 1), .str (X.env.qual ++ "<genexpr>") (s4.toks + 1 + 1)] } }) X.xe { s2 with heap := h3, toks := tk } := by
    intro code h3 tk more hle3 hk3 hP3 ht3
    have I3 : Inv X pins σ (upd H2 P (.tbl (ps ++ more))) { s2 with heap := h3, gens := s2.gens, drawn := s2.drawn, toks := tk } := GxR.inv_tab I2 hP hk3 hP3 I2.bare
    have tab3 : GxR.Tabbed P H2 (upd H2 P (.tbl (ps ++ more))) := ⟨⟨_, upd_same, ht3⟩, fun b hb => upd_ne hb⟩
    have st3 : tn 0 h3 := T.keep _ _ _ st2 fun b hb o e => hk3 b o (nfP b hb) e
    have f3 : ∀ b ∈ fp, FpOk X pins (upd H2 P (.tbl (ps ++ more))) b := fun b hb => ⟨by rw [upd_ne (nfP b hb)]; exact (f2 b hb).1, (f2 b hb).2⟩
    generalize upd H2 P (.tbl (ps ++ more)) = H3 at I3 tab3 f3
    obtain ⟨m0, hw0⟩ := w0 H3 tab3
    have sz3 : ∀ b ∈ fp, b < h3.objs.size := fun b hb => Nat.lt_of_lt_of_le (sz2 b hb) hle3
    have hs3 : ({ s2 with heap := h3, gens := s2.gens, drawn := s2.drawn, toks := tk } : Shared) = { s2 with heap := h3, toks := tk } := rfl
    rw [hs3] at I3
    generalize hsh : ({ s2 with heap := h3, toks := tk } : Shared) = s3 at I3 ⊢
    have eh : h3 = s3.heap := by rw [← hsh]
    rw [eh] at st3 sz3
    clear hsh hs3 eh hP3 hk3 hle3
    obtain ⟨bm, ob, e1, e2, e3, e4, e5, e6, e7, e8⟩ := TB.bm
    refine wpAny_builtinsFor (m := X.mg) (by rw [I3.ok.glob]; exact I3.mod.glob.keeps I3.bk) e1 e2 (I3.bk _ _ e5) e6 e7 e8 ?_
    intro h' hn' hs'
    refine Calls.spliced_nil ?_
    have hsz : h'.objs.size = s3.heap.objs.size + 1 := by rw [hs'.1, Heap.size_push]
    generalize hgo : ({ cls := .type "generator", data := .fields #[.int s3.gens.size 0, .str "<genexpr>" (s3.toks + 1), .str (X.env.qual ++ "<genexpr>") (s3.toks + 1 + 1)] } : Obj) = go
    have kp5 : ∀ b o, s3.heap.get? b = some o → (h'.push go).get? b = some o := fun b o e => Heap.get?_push_of_some _ (hs'.extBut b o (Nat.ne_of_lt (Heap.lt_size e)) (Heap.get?_push_of_some _ e))
    generalize hce : genEnv scope (cloFrom X.env.cells scope.names []) s3.heap.objs.size code builtinsNs X.env = ce
    have hhA : (X.A.in1.in1.over (.compLoop (.GeneratorExp elt [⟨tg, iter, [], 0⟩] scope gpos) 0 (.ref it) .none ce) []).handled = none := hh
    have hFr : (X.A.in1.in1.over (.compLoop (.GeneratorExp elt [⟨tg, iter, [], 0⟩] scope gpos) 0 (.ref it) .none ce) []).frames = some (ce :: X.stack) := by
      show pushEnvs [ce] (pushEnvs [] X.A.frames) = _
      rw [I3.ok.frames]
      rfl
    have hRm : Room k (X.A.in1.in1.over (.compLoop (.GeneratorExp elt [⟨tg, iter, [], 0⟩] scope gpos) 0 (.ref it) .none ce) []) := by
      have z1 := hr.dp
      have z2 := hr.un
      refine ⟨hhA, ?_, ?_⟩
      · show X.A.depth + 0 + 1 + 3 * k + 5 < recursionLimit
        omega
      · show X.A.units + 1 + 1 + 0 + 3 + 16 * k + 200 < cLine
        omega
    generalize hAg : X.A.in1.in1.over (.compLoop (.GeneratorExp elt [⟨tg, iter, [], 0⟩] scope gpos) 0 (.ref it) .none ce) [] = Ag at hhA hFr hRm
    have I5 : Inv (gX X s3 H3 Ag ce fp) [(h'.objs.size, go)] (wipe σ (own.map (·.2))) H3 { s3 with heap := h'.push go, gens := s3.gens.push (.fresh (.compStart (.GeneratorExp elt [⟨tg, iter, [], 0⟩] scope gpos) 0 (.ref it) .none ce)), toks := s3.toks + 1 + 1 + 1 } := by
      have q := gen_start (code := code) (A' := Ag) (h5 := h'.push go) (g5 := s3.gens.push (.fresh (.compStart (.GeneratorExp elt [⟨tg, iter, [], 0⟩] scope gpos) 0 (.ref it) .none ce))) (t5 := s3.toks + 1 + 1 + 1) (go := go) I3 ok gk hN (fun b hb => ⟨f3 b hb, sz3 b hb⟩) hhA (by rw [hce]; exact hFr) kp5 (hn'.push _)
        (fun x hx => if_neg hx) hdN (I3.bare.push rfl) (a := h'.objs.size) (by omega) (Heap.get?_push_size _ (by rw [← hgo]; rfl)) (by rw [← hgo]; intro v z; cases z)
      rw [hce] at q
      exact q
    have st5 : tn 0 (h'.push go) := T.keep _ _ _ st3 fun b _ o e => kp5 b o e
    have nfp : ∀ b ∈ fp, H3 b = none := fun b hb => (f3 b hb).1
    have pg := hg s3 H3 Ag s3.heap.objs.size (cloFrom X.env.cells scope.names []) code fp
    have pe := he s3 H3 Ag s3.heap.objs.size (cloFrom X.env.cells scope.names []) code fp hRm
    rw [hce] at pg pe
    have cCo : ce.scope.isCoroutine = false := by rw [← hce]; exact gk.co
    clear hn' hs' kp5 w0 hce
    -- back in the def's context
    have back : ∀ {σ' : L2.St} {H' : Hp} {s' : Shared} {pl : List (Addr × Obj)}, Inv (gX X s3 H3 Ag ce fp) pl σ' H' s' → Inv X pins σ H' s' := fun {σ' H' s' pl} J => I3.call' (ch := fp) J.os J.base J.hok J.bare fun b hb =>
      ⟨(f3 b hb).2.2.2.1, (f3 b hb).2.1, (f3 b hb).2.2.2.2.1, (f3 b hb).2.2.2.2.2⟩
    -- the list of the total
    have nSz : ∀ b ∈ fp, b ≠ h'.objs.size + 1 := fun b hb => Nat.ne_of_lt (Nat.lt_of_lt_of_le (sz3 b hb) (by omega))
    have stat : ∀ {σ' : L2.St} {H' : Hp} {s' : Shared} {oS : Obj}, Inv (gX X s3 H3 Ag ce fp) [(h'.objs.size, go), (h'.objs.size + 1, oS)] σ' H' s' → (∀ b ∈ fp, H' b = none) → ∀ b ∈ fp, FpOk (gX X s3 H3 Ag ce fp) [(h'.objs.size, go), (h'.objs.size + 1, oS)] H' b := fun {σ' H' s' oS} J hn b hb =>
      ⟨hn b hb, (J.ok.exf b hb).1, J.ok.exfs b hb, .inl hb, fun x c e => (J.ok.exf b hb).2 x c e, fun p hp => by
        have hp : p = (h'.objs.size, go) ∨ p = (h'.objs.size + 1, oS) := by simpa using hp
        rcases hp with hp | hp
        · rw [hp]
          exact Nat.ne_of_gt (Nat.lt_trans (sz3 b hb) (by rw [hsz]; exact Nat.lt_succ_self _))
        · rw [hp]
          exact Ne.symm (nSz b hb)⟩
    have gen : ∀ {σ' : L2.St} {H' : Hp} {s' : Shared} {pl : List (Addr × Obj)}, Inv (gX X s3 H3 Ag ce fp) ([(h'.objs.size, go)] ++ pl) σ' H' s' → s'.heap.IsGen h'.objs.size s3.gens.size := fun {σ' H' s' pl} J => by
      have q := (J.pin (h'.objs.size, go) (by simp)).1
      exact ⟨go, _, _, q, by rw [← hgo], by rw [← hgo], by rw [← hgo]⟩
    have fS : ∀ {H' : Hp}, H' (h'.objs.size + 1) = none → FpOk (gX X s3 H3 Ag ce fp) [(h'.objs.size, go)] H' (h'.objs.size + 1) := fun {H'} hn => I5.fpOk (by show (h'.push go).objs.size ≤ _; rw [Heap.size_push]; exact Nat.le_refl _) hn
    -- the turns
    have loop : ∀ (m n i : Nat) (z : Int) (s₀ s : Shared) (H : Hp) (oS : Obj), m < n → W i m z H → Inv (gX X s3 H3 Ag ce fp) [(h'.objs.size, go), (h'.objs.size + 1, oS)] (wipe σ (own.map (·.2))) H s → HoldsZ (h'.objs.size + 1) s z → s.heap.get? (h'.objs.size + 1) = s₀.heap.get? (h'.objs.size + 1) → tn i s.heap → (∀ b ∈ fp, H b = none) → s3.gens.size + 1 ≤ s.gens.size →
        Seg (model X.prog X.w) X.A.in1.in1 (fun n s₀ r s₁ => r = .ok .next ∧ gRs (h'.objs.size + 1) (fun z s => ∃ H', Inv X pins σ H' s ∧ Q (.int z) H') n s₀ s₁) (gYs s3.gens.size h'.objs.size (h'.objs.size + 1)) n s₀
          (.compLoop (.GeneratorExp elt [⟨tg, iter, [], 0⟩] scope gpos) 0 (.ref it) .none ce) ((model X.prog X.w).den (.compLoop (.GeneratorExp elt [⟨tg, iter, [], 0⟩] scope gpos) 0 (.ref it) .none ce)) [] s := by
      intro m
      induction m using Nat.strongRecOn with
      | ind m ih =>
        intro n i z s₀ s H oS hmn w J hz0 hs0 st nf hz
        show Seg (model X.prog X.w) _ _ _ n s₀ _ ((compTurn (.GeneratorExp elt [⟨tg, iter, [], 0⟩] scope gpos) 0 (.ref it) .none ce).onRaise (leaving ce)) [] s
        rw [compTurn_gen]
        rw [Sem.onRaise_eq_wrap]
        refine seg_bind_wrap (wpAny_standAt (seg_bind_wrap ?_))
        rw [hAg]
        have same0 : ∀ z', HoldsZ (h'.objs.size + 1) s₀ z' → z' = z := fun z' ⟨t', c', e'⟩ => HoldsZ.inj ⟨t', c', hs0.trans e'⟩ hz0
        have oSs : s.heap.get? (h'.objs.size + 1) = some oS := (J.pin (h'.objs.size + 1, oS) (by simp)).1
        rcases turn i m z H w with ⟨stp, qq⟩ | ⟨go', Nx, hNx, step⟩
        · refine thnF (T.done (gX X s3 H3 Ag ce fp) rfl rfl rfl hc i _ s _ H (fun _ _ => False) J (stat J nf) st stp) fun r s6 ⟨hr6, J6⟩ => ?_
          subst hr6
          exact seg_end (.ok .next) ⟨rfl, J6.bare, fun z' hz' => by rw [same0 z' hz']; exact ⟨H, back J6, qq⟩⟩
        · refine GenW.wpAny_gsz hz (thnF (T.item (gX X s3 H3 Ag ce fp) rfl rfl rfl hc i _ s _ H (fun _ _ => False) J (stat J nf) st go') fun r s6 ⟨u, hr6, h6⟩ hz6 => ?_)
          subst hr6
          refine seg_bind_wrap ?_
          rw [hAg]
          refine GenW.wpAny_gsz hz6 (thnF h6 fun _ s7 ⟨x, H7, J7, r7, y7, st7, n7⟩ hz7 => ?_)
          have J7' := J7.pinned (stat J7 n7) (T.obj _ _ st7)
          refine seg_bind_wrap ?_
          rw [hAg]
          refine GenW.wpAny_gsz hz7 (thnF (pg.run _ s7 _ H7 x u _ J7' r7 (step x H7 y7)) fun _ s8 ⟨σ8, H8, J8, hw8, q8⟩ hz8 => ?_)
          simp only [List.forIn_nil]
          refine seg_bind_wrap (wpAny_pure ?_)
          simp only [if_true]
          have hy : ∀ v, yieldOut ce v = yieldValue v := fun v => by simp only [yieldOut, cCo, Bool.false_eq_true, if_false]
          simp only [hy]
          rw [Sem.bind_eq_wrap', Sem.bind_eq_wrap']
          rw [Sem.wrap_wrap, Sem.wrap_wrap]
          refine seg_wrap ?_
          rw [hAg]
          refine GenW.wpAny_gsz hz8 (thnF (pe.run _ s8 σ8 H8 _ J8 q8) fun zv s9 ⟨yv, H9, J9, r9, y, eb, qb⟩ hz9 => ?_)
          subst eb
          obtain ⟨ty, rfl⟩ : ∃ t, zv = Value.int y t := r9
          obtain ⟨n', rfl⟩ : ∃ n', n = n' + 1 := ⟨n - 1, by omega⟩
          have hl : (wipe σ (own.map (·.2))).length = σ8.length := by rw [← hw8, wipe_length]
          have K9 : Inv (gX X s3 H3 Ag ce fp) [(h'.objs.size, go), (h'.objs.size + 1, oS)] (wipe σ (own.map (·.2))) H9 s9 := J9.unpinned.weak hl fun j v e => by
            rw [← hw8] at e
            exact (wipe_some e).1
          have pinS := K9.pin (h'.objs.size + 1, oS) (by simp)
          have pinG := K9.pin (h'.objs.size, go) (by simp)
          have K9' : Inv (gX X s3 H3 Ag ce fp) [(h'.objs.size, go)] (wipe σ (own.map (·.2))) H9 s9 := K9.pins_of fun p hp => by
            rw [List.mem_singleton.mp hp]
            exact pinG
          refine seg_at (seg_yield rfl rfl rfl ⟨y, ty, rfl, by rw [pinS.1, ← oSs]; exact hs0, J9.bare, hz9, fun z' s' hz' r hzs => ?_⟩)
          have L9 := r.inv K9' (fS pinS.2.1)
          refine ⟨L9.nolimit, gen (pl := []) L9, ?_⟩
          rw [same0 z' hz'] at hzs
          have hzs' := hzs
          obtain ⟨tS, cS, eS⟩ := hzs
          have L9' : Inv (gX X s3 H3 Ag ce fp) [(h'.objs.size, go), (h'.objs.size + 1, { cls := .type "list", dict := none, data := .seq #[.int (z + y) tS] cS, slots := #[] })] (wipe σ (own.map (·.2))) H9 s' := L9.pins_of fun p hp => by
            simp only [List.mem_cons, List.not_mem_nil, or_false] at hp
            rcases hp with hp | hp
            · rw [hp]
              exact L9.pin (h'.objs.size, go) (by simp)
            · rw [hp]
              exact ⟨eS, pinS.2.1, pinS.2.2.1, pinS.2.2.2.1, fun v e => by cases e⟩
          obtain ⟨m', hm', w'⟩ := hNx y H9 qb
          have pin' : ∀ b ∈ fp, ∀ o, s7.heap.get? b = some o → s9.heap.get? b = some o ∧ H9 b = none := fun b hb o e =>
            let z := J9.pin (b, o) (List.mem_append_right _ (List.mem_append_right _ (mem_pinsAt hb e)))
            ⟨z.1, z.2.1⟩
          refine seg_again rfl (ih m' hm' n' (i + 1) (z + y) s' s' H9 _ (by omega) w' L9' hzs' rfl ?_ (fun b hb => ?_) (Nat.le_trans hz9 r.size))
          · exact T.keep _ _ _ st7 fun b hb o e => r.keep b o (nSz b hb) (pin' b hb o e).1
          · obtain ⟨o, e, _⟩ := T.obj _ _ st7 b hb
            exact (pin' b hb o e).2
    have mono : ∀ (z : Int) (s s' : Shared), (∃ H', Inv X pins σ H' s ∧ Q (.int z) H') → s'.os = s.os → AllBare s'.gens → (∀ b o, s.heap.get? b = some o → s'.heap.get? b = some o) → ∃ H', Inv X pins σ H' s' ∧ Q (.int z) H' := fun z s s' ⟨H', J, q⟩ h1 h2 h3 =>
      ⟨H', inv_gens (J.kept (t' := s'.toks) h3) rfl h1 h2, q⟩
    generalize hs5 : ({ s3 with heap := h'.push go, gens := s3.gens.push (.fresh (.compStart (.GeneratorExp elt [⟨tg, iter, [], 0⟩] scope gpos) 0 (.ref it) .none ce)), toks := s3.toks + 1 + 1 + 1 } : Shared) = s5 at I5
    have hg5 : s5.gens[s3.gens.size]? = some (.fresh (.compStart (.GeneratorExp elt [⟨tg, iter, [], 0⟩] scope gpos) 0 (.ref it) .none ce)) := by
      rw [← hs5]
      exact Array.getElem?_push_size ..
    have hz5 : s3.gens.size + 1 ≤ s5.gens.size := by
      rw [← hs5]
      exact Nat.le_of_eq (Array.size_push ..).symm
    have ht5 : tn 0 s5.heap := by rw [← hs5]; exact st5
    have eS5 : s5.heap.objs.size = h'.objs.size + 1 := by rw [← hs5]; exact Heap.size_push ..
    have wt : ∀ (s6 : Shared) (z0 : Int), (∀ b o, s5.heap.get? b = some o → s6.heap.get? b = some o) → s6.os = s5.os → s6.gens = s5.gens → HoldsZ (h'.objs.size + 1) s6 z0 → z0 = 0 → WaitsS X.prog X.w X.A.in1 s3.gens.size h'.objs.size (h'.objs.size + 1) (fun z s => ∃ H', Inv X pins σ H' s ∧ Q (.int z) H') (m0 + 1) s6 := by
      intro s6 z0 k6 o6 g6 hz6 ez
      subst ez
      have I6 : Inv (gX X s3 H3 Ag ce fp) [(h'.objs.size, go)] (wipe σ (own.map (·.2))) H3 s6 := inv_gens (I5.kept (h' := s6.heap) (t' := s6.toks) k6) rfl o6 (by rw [g6]; exact I5.bare)
      have hz6' := hz6
      obtain ⟨tS, cS, eS⟩ := hz6
      have nS : H3 (h'.objs.size + 1) = none := I5.hok.fresh (by rw [eS5]; exact Nat.le_refl _)
      have f6 := fS nS
      have I6' : Inv (gX X s3 H3 Ag ce fp) [(h'.objs.size, go), (h'.objs.size + 1, { cls := .type "list", dict := none, data := .seq #[.int 0 tS] cS, slots := #[] })] (wipe σ (own.map (·.2))) H3 s6 := I6.pins_of fun p hp => by
        simp only [List.mem_cons, List.not_mem_nil, or_false] at hp
        rcases hp with hp | hp
        · rw [hp]
          exact I6.pin (h'.objs.size, go) (by simp)
        · rw [hp]
          exact ⟨eS, nS, f6.2.1, f6.2.2.1, fun v e => by cases e⟩
      have hg6 := hg5
      rw [← g6] at hg6
      refine ⟨gen (pl := []) I6, I6.nolimit, I6.bare, _, hg6, fun s' r => ⟨rfl, ?_⟩⟩
      have lp := loop m0 (m0 + 1) 0 0 s' s' H3 _ (Nat.lt_succ_self _) hw0 (r.inv I6') (hz6'.of r.heap) rfl (by rw [r.heap]; exact T.keep _ _ _ ht5 fun b _ o e => k6 b o e) nfp (Nat.le_trans (by rw [g6]; exact hz5) r.size)
      show Seg (model X.prog X.w) _ _ _ _ s' _ ((compStart (.GeneratorExp elt [⟨tg, iter, [], 0⟩] scope gpos) 0 (.ref it) .none ce).onRaise (leaving ce)) [] s'
      unfold compStart
      rw [Sem.onRaise_eq_wrap]
      show Seg (model X.prog X.w) _ _ _ _ s' _ ((ask >>= _).wrap _ _ _ _) [] s'
      refine seg_bind_wrap (wpAny_askSetting ?_)
      have ts : tn 0 s'.heap := by rw [r.heap]; exact T.keep _ _ _ ht5 fun b _ o e => k6 b o e
      split
      · exact seg_again rfl lp
      · first
          | exact seg_bind_wrap (wpAny_rule (seg_bind_wrap (wpAny_standAt (seg_bind_wrap (T.self _ 0 s' _ _ ts (seg_again rfl lp))))))
          | (refine seg_bind_wrap (wpAny_rule ?_); show Seg (model X.prog X.w) _ _ _ _ s' _ ((standAt iter.pos >>= _).wrap _ _ _ _) [] s'; exact seg_bind_wrap (wpAny_standAt (seg_bind_wrap (T.self _ 0 s' _ _ ts (seg_again rfl lp)))))
    refine call_function_tree PySem.F.kind_sum PySem.F.plain_sum PySem.F.entry_sum (PySem.F.args_sum1 _) ?_
    unfold Builtin.«sum»
    simp only [List.length_cons, List.length_nil]
    rw [if_neg (by decide)]
    refine wpAny_bind (wpAny_of_eq (show Builtin.Builtins.bindParams "sum" ["start"] 0 { } = pure [none] from rfl) ?_)
    refine wpAny_bind (wpAny_pyIter_gen (gen (pl := []) I5) ?_)
    refine wpAny_bind (wpAny_mkInt ?_)
    refine wpAny_bind (wpAny_pure ?_)
    simp only [List.forIn_cons, List.forIn_nil]
    refine wpAny_bind (wpAny_bind (wpAny_bind (wpAny_isInstance (T := "int") (b := false) (typeIs_int _ _ _) PySem.sub_int_str ?_)))
    simp only [Bool.false_eq_true, if_false]
    refine wpAny_pure (wpAny_bind (wpAny_bind (wpAny_isInstance (T := "int") (b := false) (typeIs_int _ _ _) PySem.sub_int_bytes ?_)))
    simp only [Bool.false_eq_true, if_false]
    refine wpAny_pure (wpAny_bind (wpAny_bind (wpAny_isInstance (T := "int") (b := false) (typeIs_int _ _ _) PySem.sub_int_bytearray ?_)))
    simp only [Bool.false_eq_true, if_false]
    refine wpAny_pure (wpAny_pure ?_)
    refine wpAny_bind (wpAny_newObj_type ?_)
    rw [eS5]
    have hH : HoldsZ (h'.objs.size + 1) { s5 with heap := s5.heap.push { cls := .type "list", dict := none, data := .seq #[.int 0 s5.toks], slots := #[] }, toks := s5.toks + 1 } 0 := ⟨_, _, by rw [← eS5]; exact Heap.get?_push_size _ rfl⟩
    refine wpAny_pure ⟨plainId_quiet PySem.F.plain_sum_loop _, codeAny_mono (sum_loopS hh hr.depth mono (m0 + 1) _ 0 0 (.inl rfl) hH (wt _ 0 (fun b o e => Heap.get?_push_of_some _ e) rfl rfl hH rfl)) fun r s' hq => ?_⟩
    obtain ⟨z, t, rfl, H', J, q⟩ := hq
    exact ⟨.int z, H', J, ⟨t, rfl⟩, q⟩
  cases hf : codeAmong gpos ps.toList with
  | none =>
    refine wpAny_genexprCodeX hcode (cd.code hPs ht) (cd.tab hPs) hf fun c' h' tk hx hge hlt hco' _ htab' _ => ?_
    obtain ⟨o1, vs, f1, tf, fl, tg1, inF, tx, tt, op, _, _, _, _, _, _, _, _, _, htr, _⟩ := hco'
    exact cont _ h' tk _ (Nat.le_trans hge (Nat.le_of_lt hlt)) (fun b o hb e => hx b o hb e) htab'.2 htr
  | some cv =>
    refine wpAny_genexprCode_hit hcode (cd.code hPs ht) hf ?_
    have := cont cv s2.heap s2.toks #[] (Nat.le_refl _) (fun _ _ _ e => e) (by rw [hPs]; simp) (by simpa using ht)
    exact this
end
def topS (i : Nat) : Stmt := PySem.Challenge.pw_friendfoe_k40_too_many_places.main.body.getD i (.Pass ⟨0, 0, 0, 0⟩)
abbrev s_neighbours : Stmt := topS 9
abbrev N_neighbours : List Str := ["web", "many", "ties", "around", "place", "one", "other", "kind"]
theorem sc_neighbours : FnScope N_neighbours ["web"] (defScope s_neighbours) := ⟨rfl, rfl, rfl, by decide +kernel, rfl, by decide +kernel, by decide +kernel⟩
abbrev s_sides_from : Stmt := topS 10
abbrev N_sides_from : List Str := ["start", "around", "sides", "waiting", "place", "other", "kind"]
theorem sc_sides_from : FnScope N_sides_from ["start", "around"] (defScope s_sides_from) := ⟨rfl, rfl, rfl, by decide +kernel, rfl, by decide +kernel, by decide +kernel⟩
abbrev s_parts_of : Stmt := topS 11
abbrev N_parts_of : List Str := ["web", "around", "parts", "placed", "start", "part"]
theorem sc_parts_of : FnScope N_parts_of ["web"] (defScope s_parts_of) := ⟨rfl, rfl, rfl, by decide +kernel, rfl, by decide +kernel, by decide +kernel⟩
abbrev s_ties_within : Stmt := topS 12
abbrev N_ties_within : List Str := ["web", "part", "number", "tie"]
theorem sc_ties_within : FnScope N_ties_within ["web", "part"] (defScope s_ties_within) := ⟨rfl, rfl, rfl, by decide +kernel, rfl, by decide +kernel, by decide +kernel⟩
abbrev s_breaks : Stmt := topS 14
abbrev N_breaks : List Str := ["sides", "tie", "one", "other", "kind"]
theorem sc_breaks : FnScope N_breaks ["sides", "tie"] (defScope s_breaks) := ⟨rfl, rfl, rfl, by decide +kernel, rfl, by decide +kernel, by decide +kernel⟩
abbrev s_weight_of : Stmt := topS 16
abbrev N_weight_of : List Str := ["weights", "tie"]
theorem sc_weight_of : FnScope N_weight_of ["weights", "tie"] (defScope s_weight_of) := ⟨rfl, rfl, rfl, by decide +kernel, rfl, by decide +kernel, by decide +kernel⟩
abbrev s_mend_weight : Stmt := topS 19
abbrev N_mend_weight : List Str := ["weights", "ties", "tie"]
theorem sc_mend_weight : FnScope N_mend_weight ["weights", "ties"] (defScope s_mend_weight) := ⟨rfl, rfl, rfl, by decide +kernel, rfl, by decide +kernel, by decide +kernel⟩
abbrev s_odd_parts : Stmt := topS 20
abbrev N_odd_parts : List Str := ["web", "around", "rows", "part", "ties", "sides", "tie"]
theorem sc_odd_parts : FnScope N_odd_parts ["web"] (defScope s_odd_parts) := ⟨rfl, rfl, rfl, by decide +kernel, rfl, by decide +kernel, by decide +kernel⟩
abbrev s_small_odd_parts : Stmt := topS 21
abbrev N_small_odd_parts : List Str := ["web", "rows", "part", "ties"]
theorem sc_small_odd_parts : FnScope N_small_odd_parts ["web"] (defScope s_small_odd_parts) := ⟨rfl, rfl, rfl, by decide +kernel, rfl, by decide +kernel, by decide +kernel⟩
abbrev s_all_sides : Stmt := topS 22
abbrev N_all_sides : List Str := ["part", "choices", "place", "sides", "side"]
theorem sc_all_sides : FnScope N_all_sides ["part"] (defScope s_all_sides) := ⟨rfl, rfl, rfl, by decide +kernel, rfl, by decide +kernel, by decide +kernel⟩
abbrev s_least_of_part : Stmt := topS 23
abbrev N_least_of_part : List Str := ["web", "weights", "part", "ties", "rows", "sides", "broken", "tie"]
theorem sc_least_of_part : FnScope N_least_of_part ["web", "weights", "part", "ties"] (defScope s_least_of_part) := ⟨rfl, rfl, rfl, by decide +kernel, rfl, by decide +kernel, by decide +kernel⟩
abbrev s_least_mend : Stmt := topS 24
abbrev N_least_mend : List Str := ["web", "weights", "told", "part", "ties"]
theorem sc_least_mend : FnScope N_least_mend ["web", "weights"] (defScope s_least_mend) := ⟨rfl, rfl, rfl, by decide +kernel, rfl, by decide +kernel, by decide +kernel⟩
abbrev s_ring_row : Stmt := topS 26
abbrev N_ring_row : List Str := ["web", "weights", "part", "tie", "one", "other", "kind", "first", "places", "sure", "place"]
theorem sc_ring_row : FnScope N_ring_row ["web", "weights", "part", "tie"] (defScope s_ring_row) := ⟨rfl, rfl, rfl, by decide +kernel, rfl, by decide +kernel, by decide +kernel⟩
abbrev s_known_broken : Stmt := topS 27
abbrev N_known_broken : List Str := ["web", "ties", "sides", "known", "tie"]
theorem sc_known_broken : FnScope N_known_broken ["web", "ties", "sides"] (defScope s_known_broken) := ⟨rfl, rfl, rfl, by decide +kernel, rfl, by decide +kernel, by decide +kernel⟩
abbrev s_part_paper : Stmt := topS 28
abbrev N_part_paper : List Str := ["web", "weights", "row", "least", "sides", "part", "ties", "broken", "tie", "place", "together", "apart"]
theorem sc_part_paper : FnScope N_part_paper ["web", "weights", "row", "least", "sides"] (defScope s_part_paper) := ⟨rfl, rfl, rfl, by decide +kernel, rfl, by decide +kernel, by decide +kernel⟩
abbrev s_paper_of : Stmt := topS 29
abbrev N_paper_of : List Str := ["web", "weights", "rows", "part", "ties", "least"]
theorem sc_paper_of : FnScope N_paper_of ["web", "weights"] (defScope s_paper_of) := ⟨rfl, rfl, rfl, by decide +kernel, rfl, by decide +kernel, by decide +kernel⟩
abbrev s_l_deck : Stmt := topS 31
abbrev N_l_deck : List Str := ["_law_script", "_law_cells", "_law_seed", "_law_cell"]
theorem sc_l_deck : FnScope N_l_deck ["_law_script"] (defScope s_l_deck) := ⟨rfl, rfl, rfl, by decide +kernel, rfl, by decide +kernel, by decide +kernel⟩
abbrev s_l_take : Stmt := topS 32
abbrev N_l_take : List Str := ["_law_deck_here", "_law_many", "_law_at", "_law_cell", "_law_seed", "_law_number"]
theorem sc_l_take : FnScope N_l_take ["_law_deck_here", "_law_many"] (defScope s_l_take) := ⟨rfl, rfl, rfl, by decide +kernel, rfl, by decide +kernel, by decide +kernel⟩
abbrev s_l_ties : Stmt := topS 33
abbrev N_l_ties : List Str := ["_law_deck_here", "_law_many", "_law_most", "_law_ties_here", "_law_one", "_law_other"]
theorem sc_l_ties : FnScope N_l_ties ["_law_deck_here", "_law_many", "_law_most"] (defScope s_l_ties) := ⟨rfl, rfl, rfl, by decide +kernel, rfl, by decide +kernel, by decide +kernel⟩
abbrev s_l_shuffled : Stmt := topS 34
abbrev N_l_shuffled : List Str := ["_law_deck_here", "_law_many", "_law_left", "_law_k"]
theorem sc_l_shuffled : FnScope N_l_shuffled ["_law_deck_here", "_law_many"] (defScope s_l_shuffled) := ⟨rfl, rfl, rfl, by decide +kernel, rfl, by decide +kernel, by decide +kernel⟩
abbrev s_l_sides : Stmt := topS 35
abbrev N_l_sides : List Str := ["_law_many", "_law_ties_here", "_law_side", "_law_start", "_law_waiting", "_law_here", "_law_one", "_law_other", "_law_kind", "_law_place", "_law_beside"]
theorem sc_l_sides : FnScope N_l_sides ["_law_many", "_law_ties_here"] (defScope s_l_sides) := ⟨rfl, rfl, rfl, by decide +kernel, rfl, by decide +kernel, by decide +kernel⟩
abbrev s_l_parts : Stmt := topS 36
abbrev N_l_parts : List Str := ["_law_many", "_law_ties_here", "_law_left", "_law_found", "_law_part", "_law_waiting", "_law_place", "_law_one", "_law_other", "_law_kind"]
theorem sc_l_parts : FnScope N_l_parts ["_law_many", "_law_ties_here"] (defScope s_l_parts) := ⟨rfl, rfl, rfl, by decide +kernel, rfl, by decide +kernel, by decide +kernel⟩
abbrev s_l_least_part : Stmt := topS 37
abbrev N_l_least_part : List Str := ["_law_part", "_law_rows", "_law_least_here", "_law_row", "_law_number", "_law_side", "_law_k", "_law_place", "_law_weight"]
theorem sc_l_least_part : FnScope N_l_least_part ["_law_part", "_law_rows"] (defScope s_l_least_part) := ⟨rfl, rfl, rfl, by decide +kernel, rfl, by decide +kernel, by decide +kernel⟩
abbrev s_l_least : Stmt := topS 38
abbrev N_l_least : List Str := ["_law_many", "_law_ties_here", "_law_weights", "_law_whole", "_law_part", "_law_mine", "_law_k", "_law_tie"]
theorem sc_l_least : FnScope N_l_least ["_law_many", "_law_ties_here", "_law_weights"] (defScope s_l_least) := ⟨rfl, rfl, rfl, by decide +kernel, rfl, by decide +kernel, by decide +kernel⟩
abbrev s_l_great : Stmt := topS 39
abbrev N_l_great : List Str := ["_law_deck_here", "_law_many", "_law_side", "_law_place", "_law_pairs", "_law_k", "_law_one", "_law_bent", "_law_ties_here", "_law_other"]
theorem sc_l_great : FnScope N_l_great ["_law_deck_here"] (defScope s_l_great) := ⟨rfl, rfl, rfl, by decide +kernel, rfl, by decide +kernel, by decide +kernel⟩
abbrev s_l_asked : Stmt := topS 40
abbrev N_l_asked : List Str := ["_law_way", "_law_web", "_law_weights", "_law_found", "_law_kinds", "e", "_law_others"]
theorem sc_l_asked : FnScope N_l_asked ["_law_way", "_law_web", "_law_weights"] (defScope s_l_asked) := ⟨rfl, rfl, rfl, by decide +kernel, rfl, by decide +kernel, by decide +kernel⟩
abbrev s_l_right : Stmt := topS 41
abbrev N_l_right : List Str := ["_law_web", "_law_weights", "_law_ones", "_law_due", "_law_way", "_law_found", "_law_kinds"]
theorem sc_l_right : FnScope N_l_right ["_law_web", "_law_weights"] (defScope s_l_right) := ⟨rfl, rfl, rfl, by decide +kernel, rfl, by decide +kernel, by decide +kernel⟩
abbrev s_law : Stmt := topS 42
abbrev N_law : List Str := ["_law_script", "_law_deck_here", "_law_turn", "_law_many", "_law_ties_here", "_law_bent", "_law_size", "_law_beside", "_law_one", "_law_other", "_law_kind", "_law_called", "_law_row", "_law_part", "_law_k", "_law_tie", "_law_some", "_law_web", "_law_weights"]
theorem sc_law : FnScope N_law ["_law_script"] (defScope s_law) := ⟨rfl, rfl, rfl, by decide +kernel, rfl, by decide +kernel, by decide +kernel⟩
/-! ### own rules: a list against [] -/
section
variable {X : Cx}
def rEqE (K : PySem.W.Frag) : R2 := fun x y H Q => ∃ (a b : Addr) (xs : List V), x = .ref a ∧ y = .ref b ∧ SqL K H a xs ∧ SqL K H b [] ∧ Q (.bl xs.isEmpty) H
def rNeE (K : PySem.W.Frag) : R2 := fun x y H Q => ∃ (a b : Addr) (xs : List V), x = .ref a ∧ y = .ref b ∧ SqL K H a xs ∧ SqL K H b [] ∧ Q (.bl (!xs.isEmpty)) H
theorem op_eqE (hu : X.A.units < cLine) : OpR X (compareOp .Eq) (rEqE X.K) := by
  intro pins s σ H x y v u Q I rx ry h
  obtain ⟨a, b, xs, rfl, rfl, ha, hb, q⟩ := h
  obtain rfl : v = Value.ref a := rx
  obtain rfl : u = Value.ref b := ry
  obtain ⟨its, r1, p1, _⟩ := I.list ha
  obtain ⟨its2, r2, p2, _⟩ := I.list hb
  cases r2
  cases xs with
  | nil =>
    cases r1
    exact SeqAt.eq_listAt (e := fun _ => true) p1.isList p2.isList rfl hu (fun j h1 _ => absurd h1 (by simp)) ⟨.bl true, H, I, rfl, q⟩
  | cons z zs =>
    cases r1 with
    | cons r t => exact SeqAt.eq_list_lengthsAt p1.isList p2.isList (by simp) hu ⟨.bl false, H, I, rfl, q⟩
theorem op_neE (hu : X.A.units < cLine) : OpR X (compareOp .NotEq) (rNeE X.K) := by
  intro pins s σ H x y v u Q I rx ry h
  obtain ⟨a, b, xs, rfl, rfl, ha, hb, q⟩ := h
  obtain rfl : v = Value.ref a := rx
  obtain rfl : u = Value.ref b := ry
  obtain ⟨its, r1, p1, _⟩ := I.list ha
  obtain ⟨its2, r2, p2, _⟩ := I.list hb
  cases r2
  cases xs with
  | nil =>
    cases r1
    exact SeqAt.RcNeAt.lists (e := fun _ => true) p1.isList p2.isList rfl hu (fun j h1 _ => absurd h1 (by simp)) _ _ _ _ ⟨.bl false, H, I, rfl, q⟩
  | cons z zs =>
    cases r1 with
    | cons r t => exact SeqAt.RcNeAt.lists_lengths p1.isList p2.isList (by simp) hu _ _ _ _ ⟨.bl true, H, I, rfl, q⟩
end
section
variable {P : Program} {w : World} {K : PySem.W.Frag} {mg : Str → Option Value} {base : Heap}
/-! ### the deck is laid -/
theorem cutV_ints (ns : List Int) (lo hi : Option Int) : ∃ ms : List Int, cutV (ns.map V.int) lo hi = ms.map V.int ∧ ms.length ≤ ns.length := by
  refine ⟨(ns.drop (HT.sIx ns.length 0 lo)).take (HT.sIx ns.length ns.length hi - HT.sIx ns.length 0 lo), ?_, ?_⟩
  · unfold cutV
    rw [List.length_map, List.map_take, List.map_drop]
  · rw [List.length_take, List.length_drop]
    omega
theorem ixN_nat {n k : Nat} (h : k < n) : ixN n (k : Int) = some k := by
  unfold ixN
  rw [if_pos (by omega), if_pos (by omega)]
  rfl
theorem set_map (cells : List Int) (k : Nat) (y : Int) : (cells.map V.int).set k (.int y) = (cells.set k y).map V.int := (List.map_set ..).symm
theorem ok_l_take {f : Addr} {fd : FuncData} (F : Fun K "_law_take" "_law_take" s_l_take f fd) (M : Free mg) : FnOk P w K mg base CX0 1 f fd ["_law_deck_here", "_law_many"] spDraw := by
  refine F.ok sc_l_take (fun vs H Q E h => ?_) (fun cdv A outer s H vs Q E hr h => ?_)
  · obtain ⟨d, c, m, rfl, _⟩ := h
    rfl
  · obtain ⟨d, c, m, rfl, hD, hm, hb, q⟩ := h
    have ndc := hD.ne
    obtain ⟨cells, st, n, hd, hc, hl, n0, n1, st0, st1⟩ := hD
    obtain ⟨k, rfl⟩ : ∃ k : Nat, n = k := ⟨n.toNat, by omega⟩
    have hu := hu_of hr
    refine ⟨_, (pss_cons (ps_set (i := 2) sc_l_take.nd rfl (.inl rfl) (pe_dget hu (pv 0) pe_str (fun _ _ => rfl)))
      (Evl.pss_cut (ps_if (pt_cmpR op_lt (pv 2) (pe_callB call_len_seq (by rfl) M.len PySem.boot_len (pa_cons (pe_dget hu (pv 0) pe_str (fun _ _ => rfl)) pa_nil)) (nomark _))
        (pss_cons (ps_set (i := 3) sc_l_take.nd rfl (.inl rfl) (pe_ix ix_list (pe_dget hu (pv 0) pe_str (fun _ _ => rfl)) (pv 2) (fun _ _ => rfl)))
        (Evl.pss_cut (ps_if (pt_cmpR op_ge (pv 3) (pe_op op_pow pe_int pe_int) (nomark _))
          (pss_cons (ps_asg (pe_op op_fdivW (pv 3) (pv 1)) (pg_sub (pe_dget hu (pv 0) pe_str (fun _ _ => rfl)) (pv 2) set_list))
          (pss_one (ps_ret (pe_op op_mod (pv 3) (pv 1)))))
          pss_nil)
        (pss_one (ps_dput hu (pv 0) pe_str (pe_op op_add (pv 2) pe_int) rfl))))
        pss_nil)
      (Evl.pss_cut (ps_set (i := 4) sc_l_take.nd rfl (.inl rfl) (pe_op op_mod (pe_op op_add (pe_op op_add (pe_op op_mul (pe_dget hu (pv 0) pe_str (fun _ _ => rfl)) pe_int) (pv 2)) pe_int) pe_int))
      (pss_cons (ps_dput hu (pv 0) pe_str (pv 4) rfl)
      (Evl.pss_cut (ps_set (i := 5) sc_l_take.nd rfl (.inl rfl) (pe_op op_mod (pe_op op_add (pe_op op_mul (pv 4) (pe_op op_add (pe_op op_fdiv (pv 4) pe_int) pe_int)) pe_int) pe_int))
      (pss_one (ps_ret (pe_op op_mod (pe_op op_fdiv (pe_op op_mod (pe_op op_mul (pv 5) (pe_op op_add (pe_op op_fdiv (pv 5) pe_int) pe_int)) pe_int) pe_int) (pv 1))))))))), ?_⟩
    have gAt : DGet H d (.str "at") (some (.int k)) := by rw [← dkv_at c k st]; exact DGet.k (k := Sum.inr "at") hd
    have gCe : DGet H d (.str "cells") (some (.ref c)) := by rw [← dkv_cells c k st]; exact DGet.k (k := Sum.inr "cells") hd
    refine ⟨.ref d, rfl, d, _, rfl, gAt, ?_⟩
    refine ⟨fun σ' H' => ∃ (y3 : Option V) (n : Int), σ' = [some (.ref d), some (.int m), some (.int k), y3, none, none] ∧ H' d = some (.dK (dkv c n st)) ∧ H' c = some (.lst (cells.map V.int)) ∧ 0 ≤ n ∧ n ≤ cells.length ∧ Kp d c H H', ?_, ?_⟩
    · refine ⟨.int k, rfl, .ref d, rfl, d, _, rfl, gCe, c, _, rfl, .inl (SqL.of hc), _, _, rfl, rfl, _, rfl, ?_⟩
      rw [List.length_map]
      refine ite2 (fun h1 => ?_) (fun _ => ?_)
      · have hk : k < cells.length := by have := of_decide_eq_true h1; omega
        have ea : atI (cells.map V.int) (k : Int) = some (.int cells[k]) := atI_nat (by rw [List.getElem?_map, List.getElem?_eq_getElem hk]; rfl)
        refine ⟨.ref d, rfl, d, _, rfl, gCe, .int k, rfl, c, _, k, .int cells[k], rfl, rfl, SqL.of hc, ea, ?_⟩
        refine ⟨fun σ' H' => σ' = [some (.ref d), some (.int m), some (.int k), some (.int cells[k]), none, none] ∧ H' = H, ?_, ?_⟩
        · refine ⟨.int cells[k], rfl, 10, 18, rfl, rfl, ⟨by decide, by decide, by decide⟩, _, _, rfl, rfl, _, rfl, ?_⟩
          refine ite2 (fun _ => ?_) (fun _ => ⟨rfl, rfl⟩)
          refine ⟨.int cells[k], rfl, .int m, rfl, cells[k], m, rfl, rfl, wide_div hm hb (by decide) (by decide), .ref d, rfl, d, _, rfl, gCe, .int k, rfl, c, _, k, k, rfl, rfl, hc, by rw [List.length_map]; exact ixN_nat hk, ?_⟩
          refine ⟨.int cells[k], rfl, .int m, rfl, cells[k], m, rfl, rfl, hm, q _ _ (mod_rng hm).1 (mod_rng hm).2 ⟨cells.set k (cells[k] / m), st, k, ?_, ?_, ?_⟩ Kp.at_c⟩
          · rw [upd_ne ndc]
            exact hd
          · rw [upd_same, set_map]
          · rw [List.length_set]
            exact ⟨hl, n0, n1, st0, st1⟩
        · rintro σ' H' ⟨rfl, rfl⟩
          refine ⟨.int k, rfl, k, 1, rfl, rfl, .ref d, rfl, d, _, rfl, DPut.k (k := Sum.inr "at") hd (by show 3 < sizeLine; decide), ?_⟩
          rw [dkv_putAt]
          exact ⟨_, (k : Int) + 1, rfl, upd_same, by rw [upd_ne (Ne.symm ndc)]; exact hc, by omega, by omega, Kp.at_d⟩
      · exact ⟨_, (k : Int), rfl, hd, hc, n0, n1, Kp.refl⟩
    rintro σ' H2 ⟨y3, n, rfl, hd2, hc2, n20, n21, k2⟩
    have gSe : DGet H2 d (.str "seed") (some (.int st)) := by rw [← dkv_seed c n st]; exact DGet.k (k := Sum.inr "seed") hd2
    refine ⟨fun σ' H' => ∃ S : Int, σ' = [some (.ref d), some (.int m), some (.int k), y3, some (.int S), none] ∧ 0 ≤ S ∧ S < 2147483647 ∧ H' = H2, ?_, ?_⟩
    · exact ⟨.ref d, rfl, d, _, rfl, gSe, st, 48271, rfl, rfl, .inr ⟨by decide, by decide⟩, .int k, rfl, _, _, rfl, rfl, _, 3, rfl, rfl, _, 2147483647, rfl, rfl, show (0 : Int) < 2147483647 by decide, _, rfl, (mod_rng (by decide)).1, (mod_rng (by decide)).2, rfl⟩
    rintro σ' H' ⟨S, rfl, r10, r11, rfl⟩
    refine ⟨_, rfl, .ref d, rfl, d, _, rfl, DPut.k (k := Sum.inr "seed") hd2 (by show 3 < sizeLine; decide), ?_⟩
    rw [dkv_putSeed]
    have hd3 : (upd H' d (.dK (dkv c n S))) d = some (.dK (dkv c n S)) := upd_same
    have hc3 : (upd H' d (.dK (dkv c n S))) c = some (.lst (cells.map V.int)) := by rw [upd_ne (Ne.symm ndc)]; exact hc2
    have k3 : Kp d c H (upd H' d (.dK (dkv c n S))) := k2.trans Kp.at_d
    generalize upd H' d (.dK (dkv c n S)) = H3 at hd3 hc3 k3
    refine ⟨fun σ' H' => ∃ N : Int, σ' = [some (.ref d), some (.int m), some (.int k), y3, some (.int S), some (.int N)] ∧ 0 ≤ N ∧ N < 2147483563 ∧ H' = H3, ?_, ?_⟩
    · refine ⟨.int S, rfl, .int S, rfl, S, 5, rfl, rfl, ⟨by decide, by decide⟩, _, 39373, rfl, rfl, S, _, rfl, rfl, .inl ⟨by omega, by omega⟩, _, 69621, rfl, rfl, _, 2147483563, rfl, rfl, show (0 : Int) < 2147483563 by decide, _, rfl, (mod_rng (by decide)).1, (mod_rng (by decide)).2, rfl⟩
    rintro σ' H4 ⟨N, rfl, N0, N1, rfl⟩
    refine ⟨.int N, rfl, .int N, rfl, N, 7, rfl, rfl, ⟨by decide, by decide⟩, _, 11, rfl, rfl, N, _, rfl, rfl, .inl ⟨by omega, by omega⟩, _, 2147483587, rfl, rfl, show (0 : Int) < 2147483587 by decide, _, 16, rfl, rfl, ⟨by decide, by decide⟩, .int m, rfl, _, m, rfl, rfl, hm, ?_⟩
    exact q _ _ (mod_rng hm).1 (mod_rng hm).2 ⟨cells, S, n, hd3, hc3, hl, n20, n21, r10, r11⟩ k3
def spDeck (K : PySem.W.Frag) : Sp := fun vs H Q _ => ∃ (a : Addr) (ns : List Int), vs = [.ref a] ∧ SqL K H a (ns.map V.int) ∧ ns.length ≤ 63 ∧
  ∀ d c H', Same H H' → H d = none → H c = none → Deck H' d c → Q (.ref d) H'
theorem ok_l_deck {f : Addr} {fd : FuncData} (F : Fun K "_law_deck" "_law_deck" s_l_deck f fd) (M : Free mg) : FnOk P w K mg base CX0 1 f fd ["_law_script"] (spDeck K) := by
  refine F.ok sc_l_deck (fun vs H Q E h => ?_) (fun cdv A outer s H vs Q E hr h => ?_)
  · obtain ⟨a, ns, rfl, _⟩ := h
    rfl
  · obtain ⟨a, ns, rfl, hS, hl, q⟩ := h
    refine ⟨_, (pss_cons (ps_set (i := 1) sc_l_deck.nd rfl (.inl rfl) (pe_callTy call_list_of (by rfl) M.list (by decide +kernel) (pa_cons (pe_slice sl_list (pv 0) po_none (po_some pe_int)) pa_nil)))
      (pss_cons (ps_set (i := 2) sc_l_deck.nd rfl (.inl rfl) pe_int)
      (pss_cons (ps_for PassesOwn.never rfl (pi_list (pv 1)) (pg_name (i := 3) sc_l_deck.nd rfl (.inl rfl))
        (pss_one (ps_set (i := 2) sc_l_deck.nd rfl (.inl rfl) (pe_op op_mod (pe_op op_add (pe_op op_add (pe_op op_mul (pv 2) pe_int) (pe_op op_mod (pv 3) pe_int)) pe_int) pe_int))))
      (pss_one (ps_ret (pe_disp (pps_cons pe_str (pv 1) (pps_cons pe_str pe_int (pps_cons pe_str (pv 2) pps_nil))) (by rfl) (by rfl) (fun z => by cases z) (by decide))))))), ?_⟩
    obtain ⟨ms, em, lm⟩ := cutV_ints ns none (some 63)
    refine ⟨.ref a, rfl, 63, rfl, a, _, rfl, hS, fun p1 n1 => ⟨p1, _, rfl, .inl (SqL.of upd_same), fun p2 n2 => ?_⟩⟩
    rw [em] at n2 ⊢
    have s1 : Same H (upd H p1 (.lst (ms.map V.int))) := same_new n1
    have s2 := s1.trans (same_new (o := .lst (ms.map V.int)) n2)
    have h2 : (upd (upd H p1 (.lst (ms.map V.int))) p2 (.lst (ms.map V.int))) p2 = some (.lst (ms.map V.int)) := upd_same
    have f2 : H p2 = none := s1.free n2
    generalize upd (upd H p1 (.lst (ms.map V.int))) p2 (.lst (ms.map V.int)) = H2 at s2 h2
    refine ⟨.ref p2, rfl, p2, rfl, ⟨_, SqL.of h2⟩, ?_⟩
    refine for_list (xs := ms.map V.int) (fun i σ' H' => ∃ (y3 : Option V) (st : Int), σ' = [some (.ref a), some (.ref p2), some (.int st), y3] ∧ 0 ≤ st ∧ st < 2147483629 ∧ H' = H2) ⟨none, 17, rfl, by decide, by decide, rfl⟩ (fun i σ' H' _ h => by
      obtain ⟨_, _, _, _, _, rfl⟩ := h
      exact SqL.of h2) ?_ ?_
    · rintro i x σ' H' ex ⟨y3, st, rfl, s0, s1', rfl⟩
      rw [List.getElem?_map] at ex
      obtain ⟨e, he, rfl⟩ := Option.map_eq_some_iff.mp ex
      refine ⟨.int st, rfl, st, 69621, rfl, rfl, .inr ⟨by decide, by decide⟩, .int e, rfl, e, 1000000007, rfl, rfl, show (0 : Int) < 1000000007 by decide, _, _, rfl, rfl, _, 5, rfl, rfl, _, 2147483629, rfl, rfl, show (0 : Int) < 2147483629 by decide, _, _, rfl, (mod_rng (by decide)).1, (mod_rng (by decide)).2, rfl⟩
    · rintro σ' H' ⟨y3, st, rfl, s0, s1', rfl⟩
      refine fun D nD => ⟨.ref p2, rfl, .int st, rfl, upd_same, dkv p2 0 st, rfl, by show 3 ≤ 15; decide, ?_⟩
      rw [upd_upd, dkv_new]
      have hs := s2.trans (same_new (o := .dK (dkv p2 0 st)) nD)
      exact q D p2 _ hs (s2.free nD) f2 ⟨ms, st, 0, upd_same, same_new nD _ _ h2, by omega, by omega, by omega, s0, by omega⟩
/-! ### webs -/
structure Tie where
  one : Int
  other : Int
  foe : Bool
def kindS : Bool → Str
  | true => "foe"
  | false => "friend"
def TieV (H : Hp) (v : V) (t : Tie) : Prop := ∃ a, v = .ref a ∧ H a = some (.tup [.int t.one, .int t.other, .str (kindS t.foe)])
def TieOk (n : Int) (t : Tie) : Prop := 0 ≤ t.one ∧ t.one < n ∧ 0 ≤ t.other ∧ t.other < n ∧ t.one ≠ t.other
def WebAt (H : Hp) (v : V) (n : Int) (ts : List Tie) : Prop := ∃ a b vs, v = .ref a ∧ H a = some (.tup [.int n, .ref b]) ∧ H b = some (.tup vs) ∧ Paired (TieV H) vs ts
structure WebOk (n : Int) (ts : List Tie) : Prop where
  lo : 1 ≤ n
  hi : n ≤ 40
  few : ts.length ≤ 120
  ok : ∀ t ∈ ts, TieOk n t
/-- tuples stay -/
structure Tk (H H' : Hp) : Prop where
  tup : ∀ b xs, H b = some (.tup xs) → H' b = some (.tup xs)
  frz : ∀ b o xs, H b = some (.frz o (.tup xs)) → H' b = some (.frz o (.tup xs))
instance {H H' : Hp} : CoeFun (Tk H H') (fun _ => ∀ b xs, H b = some (.tup xs) → H' b = some (.tup xs)) := ⟨Tk.tup⟩
theorem Tk.trans {H H1 H2 : Hp} (a : Tk H H1) (b : Tk H1 H2) : Tk H H2 := ⟨fun x xs h => b.tup x xs (a.tup x xs h), fun x o xs h => b.frz x o xs (a.frz x o xs h)⟩
theorem Same.tk {H H' : Hp} (s : Same H H') : Tk H H' := ⟨fun b xs h => s b _ h, fun b o xs h => s b _ h⟩
theorem tk_dk {H : Hp} {l : Addr} {xs ys : List (Key × V)} (h : H l = some (.dK xs)) : Tk H (upd H l (.dK ys)) := ⟨fun b zs e => by
  rw [upd_ne (fun z => by rw [z, h] at e; cases e)]
  exact e, fun b o zs e => by
  rw [upd_ne (fun z => by rw [z, h] at e; cases e)]
  exact e⟩
theorem tk_lst {H : Hp} {l : Addr} {xs ys : List V} (h : H l = some (.lst xs)) : Tk H (upd H l (.lst ys)) := ⟨fun b zs e => by
  rw [upd_ne (fun z => by rw [z, h] at e; cases e)]
  exact e, fun b o zs e => by
  rw [upd_ne (fun z => by rw [z, h] at e; cases e)]
  exact e⟩
theorem TieV.tk {H H' : Hp} (k : Tk H H') {v : V} {t : Tie} (h : TieV H v t) : TieV H' v t := by
  obtain ⟨a, rfl, e⟩ := h
  exact ⟨a, rfl, k _ _ e⟩
theorem ties_tk {H H' : Hp} (k : Tk H H') {vs : List V} {ts : List Tie} (h : Paired (TieV H) vs ts) : Paired (TieV H') vs ts := Paired.mono (fun _ _ x => x.tk k) h
theorem WebAt.tk {H H' : Hp} (k : Tk H H') {v : V} {n : Int} {ts : List Tie} (h : WebAt H v n ts) : WebAt H' v n ts := by
  obtain ⟨a, b, vs, rfl, h1, h2, h3⟩ := h
  exact ⟨a, b, vs, rfl, k _ _ h1, k _ _ h2, ties_tk k h3⟩
theorem Kp.tk {d c : Addr} {H H' : Hp} (k : Kp d c H H') (D : Deck H d c) : Tk H H' := by
  obtain ⟨cells, st, n, e1, e2, _⟩ := D
  exact ⟨fun b xs e => k b _ (fun z => by rw [z, e1] at e; cases e) (fun z => by rw [z, e2] at e; cases e) e, fun b o xs e => k b _ (fun z => by rw [z, e1] at e; cases e) (fun z => by rw [z, e2] at e; cases e) e⟩
theorem Kp.mut {d c l : Addr} {H H' : Hp} {o : HO} (k : Kp d c H H') (h : H l = none) : Kp d c H (upd H' l o) := fun b u h1 h2 e => by
  rw [upd_ne (ne_of_none e h)]
  exact k b u h1 h2 e
theorem Deck.mut {H : Hp} {d c l : Addr} {o : HO} (D : Deck H d c) (h1 : l ≠ d) (h2 : l ≠ c) : Deck (upd H l o) d c := by
  obtain ⟨cells, st, n, e1, e2, e3⟩ := D
  exact ⟨cells, st, n, by rw [upd_ne (Ne.symm h1)]; exact e1, by rw [upd_ne (Ne.symm h2)]; exact e2, e3⟩
theorem Deck.new {H : Hp} {d c l : Addr} {o : HO} (D : Deck H d c) (h : H l = none) : Deck (upd H l o) d c := D.same (same_new h)
theorem Deck.ned {H : Hp} {d c l : Addr} (D : Deck H d c) (h : H l = none) : l ≠ d ∧ l ≠ c := by
  obtain ⟨cells, st, n, e1, e2, e3⟩ := D
  exact ⟨(ne_of_none e1 h).symm, (ne_of_none e2 h).symm⟩
theorem Paired.at {α β : Type} {F : α → β → Prop} : ∀ {l : List α} {m : List β} {i : Nat} {a : α}, Paired F l m → l[i]? = some a → ∃ b, m[i]? = some b ∧ F a b
  | _, _, _, _, .nil, e => by simp at e
  | _, _, 0, _, .cons r _, e => by simp at e; subst e; exact ⟨_, rfl, r⟩
  | _, _, i + 1, a, .cons _ t, e => by
    obtain ⟨u, h1, h2⟩ := Paired.at (i := i) (a := a) t (by simpa using e)
    exact ⟨u, by simpa using h1, h2⟩
theorem Paired.at' {α β : Type} {F : α → β → Prop} : ∀ {l : List α} {m : List β} {i : Nat} {b : β}, Paired F l m → m[i]? = some b → ∃ a, l[i]? = some a ∧ F a b
  | _, _, _, _, .nil, e => by simp at e
  | _, _, 0, _, .cons r _, e => by simp at e; subst e; exact ⟨_, rfl, r⟩
  | _, _, i + 1, b, .cons _ t, e => by
    obtain ⟨u, h1, h2⟩ := Paired.at' (i := i) (b := b) t (by simpa using e)
    exact ⟨u, by simpa using h1, h2⟩
theorem getI {α : Type} {xs : List α} {i : Int} (h0 : 0 ≤ i) (h1 : i < (xs.length : Int)) : ∃ v, atI xs i = some v ∧ xs[i.toNat]? = some v := by
  obtain ⟨j, rfl⟩ : ∃ j : Nat, i = (j : Int) := ⟨i.toNat, by omega⟩
  have h2 : j < xs.length := by omega
  exact ⟨xs[j], atI_nat (List.getElem?_eq_getElem h2), by rw [Int.toNat_natCast]; exact List.getElem?_eq_getElem h2⟩
theorem other_ne {n a b : Int} (h0 : 0 ≤ a) (h1 : a < n) (g0 : 0 ≤ b) (g1 : b < n - 1) : a ≠ (a + 1 + b) % n := by
  by_cases h : a + 1 + b < n
  · rw [Int.emod_eq_of_lt (by omega) h]
    omega
  · have e : a + 1 + b = (a + 1 + b - n) + 1 * n := by omega
    rw [e, Int.add_mul_emod_self_right, Int.emod_eq_of_lt (by omega) (by omega)]
    omega
theorem pick2 {α : Type} (a b : α) (k : Bool) : atI [a, b] (if k then 1 else 0) = some (if k then b else a) := by
  cases k <;> rfl
def spWeb : Sp := fun vs H Q _ => ∃ (d c : Addr), vs = [.ref d] ∧ Deck H d c ∧
  ∀ v n ts H', WebAt H' v n ts → WebOk n ts → Deck H' d c → Kp d c H H' → Q v H'
end
/-! ### tuples cut and put together -/
section
variable {X : Cx}
theorem cutV_whole {xs : List V} {lo hi : Option Int} (h : HT.sIx xs.length 0 lo = 0 ∧ HT.sIx xs.length xs.length hi = xs.length) : cutV xs lo hi = xs := by
  unfold cutV
  rw [h.1, h.2]
  simp
def rSlU : V → Option Int → Option Int → Hp → VK → Prop := fun x lo hi H Q => ∃ a xs, x = .ref a ∧ H a = some (.tup xs) ∧ ∀ r H', Same H H' → H' r = some (.tup (cutV xs lo hi)) → Q (.ref r) H'
theorem sl_tupU : SlR X rSlU := by
  intro pins s σ H x v vl vu lo hi sl Q I rx hs pl pu h
  obtain ⟨a, xs, rfl, hx, q⟩ := h
  refine sl_tupA pins s σ H _ v vl vu lo hi sl Q I rx hs pl pu ⟨a, xs, rfl, SqT.of hx, fun hw => ?_, fun _ p np => ?_⟩
  · exact q a H (Same.refl H) (by rw [cutV_whole hw]; exact hx)
  · exact q p _ (same_new np) upd_same
def rCatU : R2 := fun x y H Q => ∃ a b xs ys, x = .ref a ∧ y = .ref b ∧ H a = some (.tup xs) ∧ H b = some (.tup ys) ∧ xs.length + ys.length ≤ 100000 ∧ ∀ r H', Same H H' → H' r = some (.tup (xs ++ ys)) → Q (.ref r) H'
theorem op_catU : OpR X (binaryOp .Add) rCatU := by
  intro pins s σ H x y v u Q I rx ry h
  obtain ⟨a, b, xs, ys, rfl, rfl, ha, hb, hz, q⟩ := h
  refine op_catA pins s σ H _ _ v u Q I rx ry ⟨a, b, xs, ys, rfl, rfl, SqT.of ha, SqT.of hb, Evl.sz_of hz, fun e => ?_, fun _ e => ?_, fun _ _ p np => ?_⟩
  · subst e
    exact q b H (Same.refl H) hb
  · subst e
    exact q a H (Same.refl H) (by rw [List.append_nil]; exact ha)
  · exact q p _ (same_new np) upd_same
end
/-! ### things of any kind -/
/-- its kind is known -/
def Kn (H : Hp) : V → Prop
  | .non => True
  | .bl _ => True
  | .int _ => True
  | .str _ => True
  | .ref a => (∃ xs, H a = some (.lst xs)) ∨ (∃ xs, H a = some (.tup xs)) ∨ ∃ kvs, H a = some (.dK kvs)
  | _ => False
def isI : V → Bool
  | .int _ => true
  | .bl _ => true
  | _ => false
def isB : V → Bool
  | .bl _ => true
  | _ => false
def isW : V → Bool
  | .int _ => true
  | _ => false
def isT (H : Hp) : V → Bool
  | .ref a => match H a with
    | some (.tup _) => true
    | _ => false
  | _ => false
section
variable {K : PySem.W.Frag} {H : Hp}
theorem kn_int {v : V} (h : Kn H v) : ∃ t, TyX K H v t ∧ PySem.W.kitOne K t (.type "int") = some (isI v) := by
  cases v with
  | non => exact ⟨_, .base .non, kit_ty (r := false) (by decide +kernel)⟩
  | bl b => exact ⟨_, .base (.bl b), kit_ty (r := true) (by decide +kernel)⟩
  | int i => exact ⟨_, .base (.int i), kit_ty (r := true) (by decide +kernel)⟩
  | str x => exact ⟨_, .base (.str x), kit_ty (r := false) (by decide +kernel)⟩
  | ref a =>
    rcases h with ⟨xs, h⟩ | ⟨xs, h⟩ | ⟨xs, h⟩
    · exact ⟨_, .base (.lst h), kit_ty (r := false) (by decide +kernel)⟩
    · exact ⟨_, .base (.tup h), kit_ty (r := false) (by decide +kernel)⟩
    · exact ⟨_, .base (.dK h), kit_ty (r := false) (by decide +kernel)⟩
  | byt b => exact h.elim
  | flt b => exact h.elim
  | ty n => exact h.elim
theorem kn_bool {v : V} (h : Kn H v) : ∃ t, TyX K H v t ∧ PySem.W.kitOne K t (.type "bool") = some (isB v) := by
  cases v with
  | non => exact ⟨_, .base .non, kit_ty (r := false) (by decide +kernel)⟩
  | bl b => exact ⟨_, .base (.bl b), kit_ty (r := true) (by decide +kernel)⟩
  | int i => exact ⟨_, .base (.int i), kit_ty (r := false) (by decide +kernel)⟩
  | str x => exact ⟨_, .base (.str x), kit_ty (r := false) (by decide +kernel)⟩
  | ref a =>
    rcases h with ⟨xs, h⟩ | ⟨xs, h⟩ | ⟨xs, h⟩
    · exact ⟨_, .base (.lst h), kit_ty (r := false) (by decide +kernel)⟩
    · exact ⟨_, .base (.tup h), kit_ty (r := false) (by decide +kernel)⟩
    · exact ⟨_, .base (.dK h), kit_ty (r := false) (by decide +kernel)⟩
  | byt b => exact h.elim
  | flt b => exact h.elim
  | ty n => exact h.elim
theorem kn_tup {v : V} (h : Kn H v) : ∃ t, TyX K H v t ∧ PySem.W.kitOne K t (.type "tuple") = some (isT H v) := by
  cases v with
  | non => exact ⟨_, .base .non, kit_ty (r := false) (by decide +kernel)⟩
  | bl b => exact ⟨_, .base (.bl b), kit_ty (r := false) (by decide +kernel)⟩
  | int i => exact ⟨_, .base (.int i), kit_ty (r := false) (by decide +kernel)⟩
  | str x => exact ⟨_, .base (.str x), kit_ty (r := false) (by decide +kernel)⟩
  | ref a =>
    unfold isT
    rcases h with ⟨xs, h⟩ | ⟨xs, h⟩ | ⟨xs, h⟩
    · exact ⟨_, .base (.lst h), by simp only [h]; exact kit_ty (r := false) (by decide +kernel)⟩
    · exact ⟨_, .base (.tup h), by simp only [h]; exact kit_ty (r := true) (by decide +kernel)⟩
    · exact ⟨_, .base (.dK h), by simp only [h]; exact kit_ty (r := false) (by decide +kernel)⟩
  | byt b => exact h.elim
  | flt b => exact h.elim
  | ty n => exact h.elim
theorem isT_at {v : V} (h : isT H v = true) : ∃ a xs, v = .ref a ∧ H a = some (.tup xs) := by
  cases v with
  | ref a =>
    unfold isT at h
    cases e : H a with
    | none => simp only [e] at h; cases h
    | some o =>
      cases o with
      | tup xs => exact ⟨a, xs, rfl, e⟩
      | _ => simp only [e] at h; cases h
  | _ => cases h
theorem isT_of {a : Addr} {xs : List V} (h : H a = some (.tup xs)) : isT H (.ref a) = true := by
  unfold isT
  simp only [h]
end
section
variable {P : Program} {w : World} {K : PySem.W.Frag} {mg : Str → Option Value} {base : Heap}
def spWhole : Sp := fun vs H Q _ => ∃ v, vs = [v] ∧ Kn H v ∧ Q (.bl (isW v)) H
theorem and_whole {v : V} : (isI v && !isB v) = isW v := by cases v <;> rfl
/-! ### a def whose code object stands at c: its own table is at Pt -/
structure FunC (K : PySem.W.Frag) (x qual : Str) (st : Stmt) (f : Addr) (fd : FuncData) (c : Addr) : Prop where
  ex : ∃ (oc : Value) (od : Option Addr) (kV doc pm : Value) (an : Option Addr) (ct : Value) (osl : Array (Option Value)),
    fd = PySem.W.fnOf x qual (defArgs st) (defBody st) (defScope st) .none kV doc pm an (.ref c) ct ∧ K.lookup f = some ⟨oc, od, .func fd, osl⟩ ∧ PySem.W.codeIn K (.ref c) qual = true
  kp : PySem.W.keepIn K (.ref f) = true
theorem FunC.ok {x qual : Str} {st : Stmt} {f c : Addr} {fd : FuncData} {N ps : List Str} {k : Nat} {sp : Sp} (F : FunC K x qual st f fd c) (S : FnScope N ps (defScope st)) (len : ∀ vs H Q E, sp vs H Q E → vs.length = ps.length)
    (hbody : ∀ (A : Around) (outer : List Env) (s : Shared) (H : Hp) (vs : List V) (Q : VK) (E : XK), Room k (A.deeper (envOfC qual (defScope st) s.heap.objs.size f (.ref c))) → sp vs H Q E →
      ∃ t, PSs (cxOf CX0 P w K mg base N qual (defScope st) f (.ref c) A outer s H E).nox (defBody st) t ∧ t { nx := fun _ H' => Q .non H', rt := Q } (start N vs) H) : FnOk P w K mg base CX0 (k + 1) f fd ps sp := by
  obtain ⟨oc, od, kV, doc, pm, an, ct, osl, rfl, lk, hcd⟩ := F.ex
  refine fn_of lk hcd S len fun A outer s H vs Q E hr hsp => ?_
  obtain ⟨t, h, q⟩ := hbody A outer s H vs Q E hr hsp
  exact ⟨t, h.nox, q⟩
theorem FunC.fn {x qual : Str} {st : Stmt} {f c : Addr} {fd : FuncData} (F : FunC K x qual st f fd c) : Fun K x qual st f fd := by
  obtain ⟨oc, od, kV, doc, pm, an, ct, osl, rfl, lk, hcd⟩ := F.ex
  exact ⟨⟨oc, od, kV, doc, pm, an, _, ct, osl, rfl, lk, hcd⟩, F.kp⟩
end
/-! ### all but the tables is kept -/
structure Kt (Ps : List Addr) (H H' : Hp) : Prop where
  tab : ∀ P ∈ Ps, GxR.TabG H' P
  keep : ∀ b o, b ∉ Ps → H b = some o → H' b = some o
def Tabs (Ps : List Addr) (H : Hp) : Prop := ∀ P ∈ Ps, GxR.TabG H P
theorem Kt.refl {Ps : List Addr} {H : Hp} (h : Tabs Ps H) : Kt Ps H H := ⟨h, fun _ _ _ e => e⟩
theorem Kt.trans {Ps : List Addr} {H H1 H2 : Hp} (a : Kt Ps H H1) (b : Kt Ps H1 H2) : Kt Ps H H2 := ⟨b.tab, fun x o h e => b.keep x o h (a.keep x o h e)⟩
theorem Kt.same {Ps : List Addr} {H H' : Hp} (h : Tabs Ps H) (s : Same H H') : Kt Ps H H' := ⟨fun P hP => by obtain ⟨ps, e, t⟩ := h P hP; exact ⟨ps, s _ _ e, t⟩, fun b o _ e => s b o e⟩
theorem Kt.tabbed {Ps : List Addr} {P : Addr} {H H' : Hp} (h : Tabs Ps H) (hP : P ∈ Ps) (t : GxR.Tabbed P H H') : Kt Ps H H' := by
  refine ⟨fun Q hQ => ?_, fun b o hb e => ?_⟩
  · by_cases e : Q = P
    · rw [e]
      exact t.1
    · obtain ⟨ps, e1, t1⟩ := h Q hQ
      exact ⟨ps, by rw [t.2 Q e]; exact e1, t1⟩
  · rw [t.2 b (fun z => hb (by rw [z]; exact hP))]
    exact e
theorem Tabs.out {Ps : List Addr} {H : Hp} {a : Addr} {o : HO} (t : Tabs Ps H) (h : H a = some o) (no : ∀ ps, o ≠ .tbl ps) : a ∉ Ps := fun z => by
  obtain ⟨ps, e, _⟩ := t a z
  rw [e] at h
  cases h
  exact no _ rfl
theorem Kt.tup {Ps : List Addr} {a : Addr} {H H' : Hp} {xs : List V} (k : Kt Ps H H') (t : Tabs Ps H) (h : H a = some (.tup xs)) : H' a = some (.tup xs) := k.keep a _ (t.out h fun _ z => by cases z) h
theorem Kt.lst {Ps : List Addr} {a : Addr} {H H' : Hp} {xs : List V} (k : Kt Ps H H') (t : Tabs Ps H) (h : H a = some (.lst xs)) : H' a = some (.lst xs) := k.keep a _ (t.out h fun _ z => by cases z) h
theorem Kt.dct {Ps : List Addr} {a : Addr} {H H' : Hp} {xs : List (Key × V)} (k : Kt Ps H H') (t : Tabs Ps H) (h : H a = some (.dK xs)) : H' a = some (.dK xs) := k.keep a _ (t.out h fun _ z => by cases z) h
theorem Kt.tk {Ps : List Addr} {H H' : Hp} (k : Kt Ps H H') (t : Tabs Ps H) : Tk H H' := ⟨fun _ _ e => k.tup t e, fun b o xs e => k.keep b _ (t.out e fun _ z => by cases z) e⟩
theorem Kt.kn {Ps : List Addr} {H H' : Hp} (k : Kt Ps H H') (t : Tabs Ps H) {v : V} (h : Kn H v) : Kn H' v := by
  cases v with
  | ref a =>
    rcases h with ⟨xs, h⟩ | ⟨xs, h⟩ | ⟨xs, h⟩
    · exact .inl ⟨xs, k.lst t h⟩
    · exact .inr (.inl ⟨xs, k.tup t h⟩)
    · exact .inr (.inr ⟨xs, k.dct t h⟩)
  | _ => exact h
theorem Kt.deck {Ps : List Addr} {d c : Addr} {H H' : Hp} (k : Kt Ps H H') (t : Tabs Ps H) (D : Deck H d c) : Deck H' d c := by
  obtain ⟨cells, st, n, e1, e2, e3⟩ := D
  exact ⟨cells, st, n, k.dct t e1, k.lst t e2, e3⟩
/-! ### x in t of data of any depth -/
def rInT (K : PySem.W.Frag) : R2 := fun x y H Q => ∃ d ds, Dp K H x d ∧ Dp K H y (.tuple ds) ∧ SeqAt.shaped d = true ∧ SeqAt.shaped (.tuple ds) = true ∧ Q (.bl (ds.any fun z => PyData.eqv z d)) H
theorem op_inTup {X : Cx} (hu : X.A.units + 65 < cLine) : OpR X (compareOp .In) (rInT X.K) := by
  intro pins s σ H x y v u Q I rx ry want
  obtain ⟨d, ds, hd, he, sd, se, q⟩ := want
  obtain ⟨as, r1⟩ := Dp.reads I d x v hd rx
  obtain ⟨bs, r2⟩ := Dp.reads I (.tuple ds) y u he ry
  have lay : PyData.canLayAll0 ds = true := by
    have z := SeqAt.canLay_of_shaped se
    rw [PyData.canLay0] at z
    exact z
  have deep := SeqAt.depth_of_shaped sd
  exact SeqAt.in_tuple_reads r2 r1 lay (SeqAt.canLay_of_shaped sd) (by omega) ⟨.bl _, H, I, rfl, q⟩
/-! ### tuples that are known to have no dict: their methods -/
def NoD (H : Hp) (p : Addr) (xs : List V) : Prop := ∃ o : Obj, o.dict = none ∧ H p = some (.frz o (.tup xs))
theorem NoD.same {H H' : Hp} {p : Addr} {xs : List V} (h : NoD H p xs) (s : Same H H') : NoD H' p xs := by
  obtain ⟨o, h1, h2⟩ := h
  exact ⟨o, h1, s _ _ h2⟩
theorem NoD.sq {K : PySem.W.Frag} {H : Hp} {p : Addr} {xs : List V} (h : NoD H p xs) : SqT K H p xs := by
  obtain ⟨o, h1, h2⟩ := h
  exact .inl (.inr ⟨o, h2⟩)
theorem NoD.tk {H H' : Hp} {p : Addr} {xs : List V} (h : NoD H p xs) (k : Tk H H') : NoD H' p xs := by
  obtain ⟨o, h1, h2⟩ := h
  exact ⟨o, h1, k.frz _ _ _ h2⟩
section
variable {X : Cx}
theorem call_tuple_ofZ : CallR X (.type "tuple") (fun xs H Q => ∃ p ys, xs = [.ref p] ∧ SqL X.K H p ys ∧ ∀ l o, o.dict = none → H l = none → Q (.ref l) (upd H l (.frz o (.tup ys)))) := by
  intro pins s σ H xs us Q I r h
  obtain ⟨p, ys, rfl, hq, q⟩ := h
  obtain ⟨u, rfl, rx⟩ := vals1 r
  cases rx
  obtain ⟨its, r', pl, hz⟩ := I.list hq
  have hlen := r'.length
  refine call_tuple_list pl.isList (fun h' kp => ?_) (by simp only [List.size_toArray] <;> omega)
  have I1 : Inv X pins σ H { s with heap := h' } := I.kept (t' := s.toks) kp
  have I2 : Inv X pins σ (upd H h'.objs.size (.frz { cls := .type "tuple", data := .seq its.toArray } (.tup ys))) { s with heap := h'.push { cls := .type "tuple", data := .seq its.toArray } } :=
    I1.laid (t' := s.toks) (fun b o e => Heap.get?_push_of_some _ e) (Nat.le_refl _) (show ObjOk X.prog X.w _ _ _ (.frz { cls := .type "tuple", data := .seq its.toArray } (.tup ys)) from ⟨Heap.get?_push_size _ rfl, hz, its, r', IsTup.new _ _⟩)
  exact ⟨.ref h'.objs.size, _, I2, rfl, q _ _ rfl (I1.hok.fresh (Nat.le_refl _))⟩
/-- a method of such a tuple -/
def tBMT (r : V → List V → Hp → VK → Prop) (to : TE) (t : TA) : TE := fun σ H Q => to σ H fun x H1 => (∃ p xs, x = .ref p ∧ NoD H1 p xs) ∧ t σ H1 fun xs H2 => r x xs H2 Q
theorem pe_bmT {o e : Expr} {es : List Expr} {to : TE} {t : TA} {name : Str} {apos cpos : Pos} {id : String} {r : V → List V → Hp → VK → Prop} (slot : Slot "tuple" name id) (hty : typeOf (.builtin id) = pure (.type "method_descriptor")) (hm : MtR X id r) (ho : PE X o to) (ha : PA X (e :: es) t)
    (hbase : attributeBase o name X.env (eval o X.env) = eval o X.env := by rfl)
    (hfew : ((backTo cpos (starEach (e :: es) X.env)).all (fun x => !x.1) && (backToKw cpos (keywordEach [] X.env)).all (fun x => x.1.isSome)
      && decide ((e :: es).length + ([] : List Keyword).length + (if ([] : List Keyword).isEmpty then 0 else 1) < 30)) = true := by rfl)
    (hline : (apos.endLine == cpos.line) = true := by rfl) (hs : starEach (e :: es) X.env = (false, eval e X.env) :: starEach es X.env := by rfl) (hplain : (backTo cpos (starEach es X.env)).any (·.1) = false := by rfl) :
    PE X (.Call (.Attribute o name apos) (e :: es) [] cpos) (tBMT r to t) := by
  refine ⟨fun pins s σ H Q I h => ?_⟩
  refine wpAny_Call_method_late hbase hfew hline rfl (thn (ho.run pins s σ H _ I h) fun v s1 ⟨x, H1, I1, r1, ⟨p, xs, ex, ob, od, hp⟩, q1⟩ => ?_)
  subst ex
  obtain rfl : v = Value.ref p := r1
  obtain ⟨e1, hz, its, rv, o2, e2, c2, n2, d2⟩ := (show ObjOk X.prog X.w H1 s1.heap p (.frz ob (.tup xs)) from I1.hok p _ hp)
  rw [e1] at e2
  cases e2
  refine ⟨"tuple", id, PySem.F.plainAttrs_tuple, slot, hty, ⟨ob, e1, c2⟩, fun a ea => ?_, ?_⟩
  · cases ea
    exact ⟨ob, e1, od⟩
  have hA := ha.run cpos pins s1 σ H1 _ I1 q1
  rw [hs] at hA ⊢
  refine Calls.callWith_builtin (by show (false || (backTo cpos (starEach es X.env)).any (·.1)) = false; rw [hplain] <;> rfl) (Calls.evalArgs_plain ?_)
  exact thn hA fun us s2 ⟨vs, H2, I2, r2, q2⟩ => hm pins s2 σ H2 (.ref p) vs (.ref p) us Q I2 rfl r2 q2
end
/-! ### enumerate of a tuple -/
set_option maxHeartbeats 1000000 in
theorem meets_enumOne {v : Value} {o : Obj} {S : Heap → Prop} (B : Begins v o S) : Meets (Builtin.«enumerate.__new__» ⟨[.type "enumerate", v], []⟩) (fun _ R s => S s.heap ∧
      R (.ok (.ret (.ref (s.heap.push o).objs.size))) { s with heap := (s.heap.push o).push { cls := .type "enumerate", data := .fields #[.none, .bool false, .ref s.heap.objs.size, rawInt 0, .none, .none] } }) :=
  .of_wp fun prog w A R s h => by
    obtain ⟨hp, g, d, tk, os⟩ := s
    obtain ⟨h1, h⟩ := h
    have sub0 := sub_enumerate
    have begun : ∀ {A' : PySem.Around} {E : Value → Shared → Prop} {Q : Value → Shared → Prop}, Q (.ref hp.objs.size) ⟨hp.push o, g, d, tk, os⟩ → wpAny (model prog w) A' (pyIter v) Q E ⟨hp, g, d, tk, os⟩ := fun q => B.iter prog w _ _ ⟨hp, g, d, tk, os⟩ _ h1 q
    wp_walk using begun
    refine wpAny_stack_any fun st => wpAny_pure ?_
    split
    · rename_i c _ _ _ _ _
      cases (c == Value.type "enumerate")
      all_goals
        wp_walk using begun
        exact ⟨_, rfl, h⟩
    · wp_walk using begun
      exact ⟨_, rfl, h⟩
theorem call_enumT {P : Program} {w : World} {A : PySem.Around} {E : Value → Shared → Prop} {s : Shared} {t : Addr} {items : Array Value} {Q : Value → Shared → Prop} (ht : s.heap.IsTuple t items)
    (h : ∀ h', IsEnum h' (s.heap.objs.size + 1) s.heap.objs.size 0 .none → h'.IsTupleIter s.heap.objs.size t 0 → (∀ b o, s.heap.get? b = some o → h'.get? b = some o) → Q (.ref (s.heap.objs.size + 1)) { s with heap := h' }) : wpAny (model P w) A (call (.type "enumerate") [.ref t]) Q E s := by
  refine callType_new PySem.F.called_enumerate (by decide) (PySem.F.typeCall_enumerate_1 _) (PySem.F.newCall_enumerate_1 _) (fun ob => PySem.F.args_object_init_2 ob _) PySem.F.entry_enumerate_new (meets_enumOne (begins_tuple t items)) ⟨ht, ?_⟩
  have size1 := Heap.size_push s.heap { cls := .type "tuple_iterator", data := .fields #[.ref t, .int 0 0] }
  have en := Heap.get?_push_size (s.heap.push { cls := .type "tuple_iterator", data := .fields #[.ref t, .int 0 0] }) (o := { cls := .type "enumerate", data := .fields #[.none, .bool false, .ref s.heap.objs.size, rawInt 0, .none, .none] }) rfl
  rw [size1] at en
  show _ ∧ _
  rw [size1]
  exact ⟨⟨_, en, rfl⟩, h _ en ⟨_, Heap.get?_push_of_some _ (Heap.get?_push_size _ rfl), rfl, rfl⟩ fun b o e => Heap.get?_push_of_some _ (Heap.get?_push_of_some _ e)⟩
/-- the turns: a new pair each, of the number and the part -/
def ItN (K : PySem.W.Frag) (a : Addr) : It where
  go := fun i H => ∃ (xs : List V) (x : V), SqT K H a xs ∧ xs[i]? = some x
  yld := fun i H v H' => ∃ T x, v = .ref T ∧ H T = none ∧ H' = upd H T (.tup [.int (i : Nat), x]) ∧ ∀ xs, SqT K H a xs → xs[i]? = some x
  stop := fun i H => ∃ xs : List V, SqT K H a xs ∧ xs.length ≤ i
theorem turn_enumT {P : Program} {w : World} {K : PySem.W.Frag} {elts : List Expr} {kk : Nat} {tpos : Pos} (a e it : Addr) (n1 : e ≠ it) (n2 : a ≠ it) (n3 : e ≠ a) :
    Turn P w K (.Tuple elts kk tpos) (ItN K a) [e, it] e (fun i h => (∃ old, IsEnum h e it ((i : Nat) : Int) old) ∧ h.IsTupleIter it a i) where
  mem := List.mem_cons_self
  obj := by
    rintro i h ⟨⟨old, he⟩, o, ho, hc, hd⟩ b hb
    rcases List.mem_cons.mp hb with rfl | hb
    · exact ⟨_, he, fun v q => nomatch q⟩
    · rw [List.mem_singleton.mp hb]
      exact ⟨o, ho, fun v q => by rw [hd] at q; cases q⟩
  keep := by
    rintro i h h' ⟨⟨old, he⟩, hit⟩ kp
    exact ⟨⟨old, kp e (by simp) _ he⟩, hit.at fun o q => kp it (by simp) o q⟩
  item := by
    intro X hP hw hK hc i pins s σ H E I hf st hg
    subst hP hw hK
    obtain ⟨⟨old, he⟩, hit⟩ := st
    obtain ⟨xs, x, hq, hx⟩ := hg
    obtain ⟨its, rv, tup, _⟩ := I.tuple hq
    obtain ⟨u, hu, ru⟩ := rv.get hx
    have le := Heap.lt_size he
    have li : it < s.heap.objs.size := let ⟨_, q, _⟩ := hit; Heap.lt_size q
    have lt : i < its.toArray.size := by simpa using (List.getElem?_eq_some_iff.mp hu).1
    refine wpAny_pyNext_enum_itemD (Draws.tuple (A := X.A.in1) (I.ok.hd hc) it a n2 its.toArray) he ⟨hit, tup⟩ lt n1 (by simp [n1, n3]) fun x' h' tk ex out st' new _ kp => ?_
    obtain rfl : u = x' := Option.some.inj (((by simpa using hu) : its.toArray[i]? = some u).symm.trans ex)
    refine ⟨_, rfl, wpAny_letOwnedTupleGo_enum (s := { s with heap := h', toks := tk + 1 }) out fun h2 he2 sb => ?_⟩
    have new2 : h2.get? s.heap.objs.size = some { cls := .type "tuple", data := .seq #[.int i tk, u] } := (sb.2 _ (Nat.ne_of_gt le)).trans new
    have objT : ObjOk X.prog X.w (upd H s.heap.objs.size (.tup [.int (i : Nat), x])) h2 s.heap.objs.size (.tup [.int (i : Nat), x]) := ⟨by show 2 ≤ sizeLine; decide, [.int i tk, u], .cons ⟨_, rfl⟩ (.cons ru .nil), ⟨_, new2, rfl, _, rfl⟩⟩
    have J : Inv X pins σ (upd H s.heap.objs.size (.tup [.int (i : Nat), x])) { s with heap := h2, toks := tk + 1 } := I.turnedNew (ch := [e, it]) (fun b ob hb q => by
      simp only [List.mem_cons, List.not_mem_nil, or_false, not_or] at hb
      exact (sb.2 b hb.1).trans (kp b ob hb.1 hb.2 q)) hf (Nat.le_refl _) objT
    refine ⟨.ref s.heap.objs.size, _, J, rfl, ⟨_, x, rfl, I.hok.fresh (Nat.le_refl _), rfl, fun ys hy => by rw [I.tuple_inj hy hq]; exact hx⟩, ⟨⟨u, ?_⟩, st'.1.at fun o q => (sb.2 it (Ne.symm n1)).trans q⟩, fun b hb => ?_⟩
    · rw [show ((i + 1 : Nat) : Int) = (i : Int) + 1 from by omega]
      exact he2
    · have lb : b < s.heap.objs.size := by
        rcases List.mem_cons.mp hb with rfl | hb
        · exact le
        · rw [List.mem_singleton.mp hb]
          exact li
      rw [upd_ne (Nat.ne_of_lt lb)]
      exact (hf b hb).1
  done := by
    intro X hP hw hK hc i pins s σ H E I hf st hg
    subst hP hw hK
    obtain ⟨⟨old, he⟩, hit⟩ := st
    obtain ⟨xs, hq, hx⟩ := hg
    obtain ⟨its, rv, tup, _⟩ := I.tuple hq
    have hl := rv.length
    obtain ⟨f0, f1, f2, f3, f4, f5⟩ := hf it (by simp)
    have D : Draws X.prog X.w X.A.in1 it [it, a] i (fun _ _ => False) (fun j h => j = i ∧ h.IsTupleIter it a i ∧ h.IsTuple a its.toArray) := {
      live := fun j h z => let ⟨_, ⟨o, q, _⟩, _⟩ := z; ⟨o, q⟩
      frame := fun j h h' z kp => ⟨z.1, z.2.1.at fun o q => kp it (by simp) o q, z.2.2.at fun o q => kp a (by simp) o q⟩
      item := fun j s' Q E' hj z => absurd z.1 (Nat.ne_of_lt hj)
      done := fun s' Q E' z fin => wpAny_nextOf_tuple_end (I.ok.hd hc) z.2.1 z.2.2 (by simp; omega) fin }
    exact wpAny_pyNext_enum_endD D he ⟨rfl, hit, tup⟩ fun h' eb => ⟨rfl, I.turned (t' := s.toks) (fun b o hb q => eb b o hb q) f0 f1 f3 f4 f5⟩
  self := fun A i s Q E st h => let ⟨⟨_, he⟩, _⟩ := st; wpAny_pyIter_enum he h
def iEnT (K : PySem.W.Frag) (ta : TA) : TI := fun σ H R => ta σ H fun vs H1 => ∃ a xs, vs = [.ref a] ∧ SqT K H1 a xs ∧ R (ItN K a) H1
theorem pi_enumT {X : Cx} {e : Expr} {ta : TA} {p pos tpos : Pos} {elts : List Expr} {kk : Nat} (hg : Gl X "enumerate") (hm : X.mg "enumerate" = none) (ha : PA X [e] ta) (hs : starEach [e] X.env = [(false, eval e X.env)] := by rfl) :
    PI X (.Tuple elts kk tpos) (.Call (.Name "enumerate" p) [e] [] pos) (iEnT X.K ta) := by
  refine ⟨fun pins s σ H R I want => Call_ (ld_blt I hg hm boot_enumerate (PyProof.Rows.callWith_type1 (thn (ha.run pos pins s σ H _ I want) fun us s1 got => ?_) hs rfl))⟩
  obtain ⟨vs, H1, J, rel, a, xs, ex, hq, q⟩ := got
  subst ex
  obtain ⟨u, eu, r1⟩ := vals1 rel
  subst eu
  obtain rfl : u = Value.ref a := r1
  obtain ⟨its, rv, tup, _⟩ := J.tuple hq
  have la : a < s1.heap.objs.size := let ⟨_, q, _⟩ := tup; Heap.lt_size q
  refine call_enumT (items := its.toArray) tup fun h' he hit kp => wpAny_pyIter_enum he ?_
  have J2 : Inv X pins σ H1 { s1 with heap := h' } := J.kept (t' := s1.toks) kp
  refine ⟨s1.heap.objs.size + 1, [s1.heap.objs.size + 1, s1.heap.objs.size], _, _, H1, rfl, J2, turn_enumT a (s1.heap.objs.size + 1) s1.heap.objs.size (Nat.succ_ne_self _) (Nat.ne_of_lt la) (Nat.ne_of_gt (Nat.lt_succ_of_lt la)), ⟨⟨.none, he⟩, hit⟩, fun b hb => ?_, q⟩
  have lb : s1.heap.objs.size ≤ b := by
    rcases List.mem_cons.mp hb with rfl | hb
    · exact Nat.le_succ _
    · rw [List.mem_singleton.mp hb]
      exact Nat.le_refl _
  exact J.fpOk lb (J.hok.fresh lb)
theorem walk_enumT {K : PySem.W.Frag} {a : Addr} {xs : List V} : Walk (ItN K a) xs.length (fun H => SqT K H a xs) (YPair (fun i => some (.int (i : Nat))) (fun i => xs[i]?)) :=
  ⟨fun i H hi h => ⟨xs, xs[i], h, List.getElem?_eq_getElem hi⟩, fun H h => ⟨xs, h, Nat.le_refl _⟩, fun i H x H' hi h y => by
    obtain ⟨T, z, e1, e2, e3, e4⟩ := y
    exact ⟨T, _, z, e1, e2, e3, rfl, e4 xs h⟩⟩
/-! ### ties, walks, parts: the mathematics -/
def Adj (ts : List Tie) (a b : Int) (foe : Bool) : Prop := ∃ t ∈ ts, t.foe = foe ∧ ((t.one = a ∧ t.other = b) ∨ (t.one = b ∧ t.other = a))
theorem Adj.symm {ts : List Tie} {a b : Int} {k : Bool} (h : Adj ts a b k) : Adj ts b a k := by
  obtain ⟨t, ht, e, h⟩ := h
  exact ⟨t, ht, e, h.symm⟩
/-- a walk with so many foes, even or odd -/
inductive RP (ts : List Tie) (a : Int) : Int → Bool → Prop
  | nil : RP ts a a false
  | step {b c : Int} {p k : Bool} : RP ts a b p → Adj ts b c k → RP ts a c (p ^^ k)
def Rch (ts : List Tie) (a b : Int) : Prop := ∃ p, RP ts a b p
theorem RP.trans {ts : List Tie} {a b c : Int} {p q : Bool} (h : RP ts a b p) (g : RP ts b c q) : RP ts a c (p ^^ q) := by
  induction g with
  | nil =>
    rw [Bool.xor_false]
    exact h
  | step _ k ih =>
    rw [← Bool.xor_assoc]
    exact ih.step k
theorem RP.one {ts : List Tie} {a b : Int} {k : Bool} (h : Adj ts a b k) : RP ts a b k := by
  have q := RP.nil.step h
  rw [Bool.false_xor] at q
  exact q
theorem RP.symm {ts : List Tie} {a b : Int} {p : Bool} (h : RP ts a b p) : RP ts b a p := by
  induction h with
  | nil => exact .nil
  | step _ k ih =>
    have q := (RP.one k.symm).trans ih
    rw [Bool.xor_comm] at q
    exact q
theorem Rch.refl {ts : List Tie} {a : Int} : Rch ts a a := ⟨_, .nil⟩
theorem Rch.symm {ts : List Tie} {a b : Int} (h : Rch ts a b) : Rch ts b a := by
  obtain ⟨p, h⟩ := h
  exact ⟨p, h.symm⟩
theorem Rch.trans {ts : List Tie} {a b c : Int} (h : Rch ts a b) (g : Rch ts b c) : Rch ts a c := by
  obtain ⟨p, h⟩ := h
  obtain ⟨q, g⟩ := g
  exact ⟨_, h.trans g⟩
theorem Rch.adj {ts : List Tie} {a b : Int} {k : Bool} (h : Adj ts a b k) : Rch ts a b := ⟨_, RP.one h⟩
theorem Rch.ind {ts : List Tie} {a b : Int} (C : Int → Prop) (h : Rch ts a b) (h0 : C a) (hs : ∀ x y k, C x → Adj ts x y k → C y) : C b := by
  obtain ⟨p, h⟩ := h
  induction h with
  | nil => exact h0
  | step _ k ih => exact hs _ _ _ ih k
theorem Adj.rng {ts : List Tie} {n a b : Int} {k : Bool} (ok : ∀ t ∈ ts, TieOk n t) (h : Adj ts a b k) : 0 ≤ b ∧ b < n := by
  obtain ⟨t, ht, _, h⟩ := h
  obtain ⟨h1, h2, h3, h4, _⟩ := ok t ht
  rcases h with ⟨e1, e2⟩ | ⟨e1, e2⟩
  · omega
  · omega
theorem Rch.rng {ts : List Tie} {n a b : Int} (ok : ∀ t ∈ ts, TieOk n t) (ha : 0 ≤ a ∧ a < n) (h : Rch ts a b) : 0 ≤ b ∧ b < n := h.ind (fun x => 0 ≤ x ∧ x < n) ha fun _ _ _ _ k => k.rng ok
def leader (ts : List Tie) (s : Int) : Prop := ∀ q, Rch ts s q → s ≤ q
/-- rising lists of the same numbers are one -/
theorem rising_ext : ∀ {xs ys : List Int}, xs.Pairwise (· < ·) → ys.Pairwise (· < ·) → (∀ z, z ∈ xs ↔ z ∈ ys) → xs = ys
  | [], [], _, _, _ => rfl
  | [], y :: ys, _, _, h => by have := (h y).mpr (by simp); simp at this
  | x :: xs, [], _, _, h => by have := (h x).mp (by simp); simp at this
  | x :: xs, y :: ys, hx, hy, h => by
    rw [List.pairwise_cons] at hx hy
    have e : x = y := by
      have h1 := (h x).mp (by simp)
      have h2 := (h y).mpr (by simp)
      rcases List.mem_cons.mp h1 with e | e
      · exact e
      · rcases List.mem_cons.mp h2 with e' | e'
        · exact e'.symm
        · have := hx.1 y e'
          have := hy.1 x e
          omega
    subst e
    rw [rising_ext hx.2 hy.2 fun z => ?_]
    constructor
    · intro hz
      rcases List.mem_cons.mp ((h z).mp (List.mem_cons_of_mem _ hz)) with e | e
      · have := hx.1 z hz
        omega
      · exact e
    · intro hz
      rcases List.mem_cons.mp ((h z).mpr (List.mem_cons_of_mem _ hz)) with e | e
      · have := hy.1 z hz
        omega
      · exact e
/-- 0, 1, .., n - 1 -/
def rng (n : Nat) : List Int := (List.range n).map fun (i : Nat) => (i : Int)
theorem mem_rng {n : Nat} {z : Int} : z ∈ rng n ↔ 0 ≤ z ∧ z < n := by
  unfold rng
  rw [List.mem_map]
  constructor
  · rintro ⟨i, hi, rfl⟩
    have := List.mem_range.mp hi
    omega
  · rintro ⟨h1, h2⟩
    exact ⟨z.toNat, List.mem_range.mpr (by omega), by omega⟩
theorem rng_rising (n : Nat) : (rng n).Pairwise (· < ·) := by
  unfold rng
  rw [List.pairwise_map]
  exact List.pairwise_lt_range.imp (by intro a b h; omega)
theorem rng_succ (n : Nat) : rng (n + 1) = rng n ++ [(n : Int)] := by
  unfold rng
  rw [List.range_succ, List.map_append]
  rfl
theorem rng_length (n : Nat) : (rng n).length = n := by
  unfold rng
  rw [List.length_map, List.length_range]
open Classical in
/-- the part of s -/
noncomputable def partOf (ts : List Tie) (n : Nat) (s : Int) : List Int := (rng n).filter fun p => decide (Rch ts s p)
open Classical in
/-- the parts by their first places, below i -/
noncomputable def partsTo (ts : List Tie) (n i : Nat) : List (List Int) := ((rng i).filter fun s => decide (leader ts s)).map (partOf ts n)
open Classical in
theorem partsTo_succ (ts : List Tie) (n i : Nat) : partsTo ts n (i + 1) = partsTo ts n i ++ (if leader ts i then [partOf ts n i] else []) := by
  unfold partsTo
  rw [rng_succ, List.filter_append, List.map_append]
  congr 1
  by_cases h : leader ts (i : Int)
  · rw [if_pos h, List.filter_cons, if_pos (decide_eq_true h)]
    rfl
  · rw [if_neg h, List.filter_cons, if_neg (by simpa using h)]
    rfl
theorem part_rising (ts : List Tie) (n : Nat) (s : Int) : (partOf ts n s).Pairwise (· < ·) := (rng_rising n).filter _
theorem mem_part {ts : List Tie} {n : Nat} {s z : Int} : z ∈ partOf ts n s ↔ (0 ≤ z ∧ z < n) ∧ Rch ts s z := by
  unfold partOf
  rw [List.mem_filter, mem_rng]
  simp
/-! ### the least place that each comes to, gone over again and again -/
def relax (f : Int → Int) (t : Tie) : Int → Int := fun x => if x = t.one ∨ x = t.other then min (f t.one) (f t.other) else f x
def rounds (ts : List Tie) : Nat → Int → Int
  | 0 => fun x => x
  | r + 1 => ts.foldl relax (rounds ts r)
theorem relax_le (f : Int → Int) (t : Tie) (x : Int) : relax f t x ≤ f x := by
  unfold relax
  split
  · rename_i h
    rcases h with rfl | rfl <;> omega
  · exact Int.le_refl _
theorem fold_le : ∀ (l : List Tie) (f : Int → Int) (x : Int), l.foldl relax f x ≤ f x
  | [], _, _ => Int.le_refl _
  | t :: l, f, x => Int.le_trans (fold_le l (relax f t) x) (relax_le f t x)
theorem fold_tie : ∀ (l : List Tie) (f : Int → Int) (t : Tie), t ∈ l → l.foldl relax f t.one ≤ min (f t.one) (f t.other) ∧ l.foldl relax f t.other ≤ min (f t.one) (f t.other)
  | t' :: l, f, t, h => by
    rcases List.mem_cons.mp h with e | e
    · subst e
      have h1 := fold_le l (relax f t) t.one
      have h2 := fold_le l (relax f t) t.other
      have e1 : relax f t t.one = min (f t.one) (f t.other) := by unfold relax; rw [if_pos (.inl rfl)]
      have e2 : relax f t t.other = min (f t.one) (f t.other) := by unfold relax; rw [if_pos (.inr rfl)]
      rw [e1] at h1
      rw [e2] at h2
      exact ⟨h1, h2⟩
    · have ih := fold_tie l (relax f t') t e
      have h1 := relax_le f t' t.one
      have h2 := relax_le f t' t.other
      exact ⟨Int.le_trans ih.1 (by omega), Int.le_trans ih.2 (by omega)⟩
theorem fold_rch {ts : List Tie} : ∀ (l : List Tie) (f : Int → Int), (∀ t ∈ l, t ∈ ts) → (∀ x, Rch ts x (f x)) → ∀ x, Rch ts x (l.foldl relax f x)
  | [], _, _, h => h
  | t :: l, f, hl, h => fold_rch l (relax f t) (fun t' ht => hl t' (List.mem_cons_of_mem _ ht)) fun x => by
    have ad : Rch ts t.one t.other := Rch.adj (k := t.foe) ⟨t, hl t (by simp), rfl, .inl ⟨rfl, rfl⟩⟩
    unfold relax
    split
    · rename_i hx
      have key : Rch ts x t.one ∧ Rch ts x t.other := by
        rcases hx with e | e <;> subst e
        · exact ⟨Rch.refl, ad⟩
        · exact ⟨ad.symm, Rch.refl⟩
      rcases Int.le_total (f t.one) (f t.other) with q | q
      · rw [Int.min_eq_left q]
        exact key.1.trans (h _)
      · rw [Int.min_eq_right q]
        exact key.2.trans (h _)
    · exact h x
theorem rounds_rch (ts : List Tie) : ∀ (r : Nat) (x : Int), Rch ts x (rounds ts r x)
  | 0, _ => Rch.refl
  | r + 1, x => fold_rch ts _ (fun _ h => h) (rounds_rch ts r) x
theorem filter_lt {p q : Int → Bool} : ∀ {l : List Int}, (∀ x ∈ l, q x = true → p x = true) → (∃ x ∈ l, p x = true ∧ q x = false) → (l.filter q).length < (l.filter p).length
  | [], _, ⟨x, hx, _⟩ => by simp at hx
  | y :: l, hi, ⟨x, hx, hp, hq⟩ => by
    have mono : (l.filter q).length ≤ (l.filter p).length := by
      have hi' : ∀ x ∈ l, q x = true → p x = true := fun x h => hi x (List.mem_cons_of_mem _ h)
      clear hi hx hp hq
      induction l with
      | nil => exact Nat.le_refl _
      | cons z l ih =>
        have ih := ih fun x h => hi' x (List.mem_cons_of_mem _ h)
        rw [List.filter_cons, List.filter_cons]
        have hz := hi' z (by simp)
        cases h1 : q z <;> cases h2 : p z <;> simp_all <;> omega
    rw [List.filter_cons, List.filter_cons]
    rcases List.mem_cons.mp hx with e | e
    · subst e
      rw [hq, hp]
      simp
      omega
    · have ih := filter_lt (l := l) (fun x h => hi x (List.mem_cons_of_mem _ h)) ⟨x, e, hp, hq⟩
      have hy := hi y (by simp)
      cases h1 : q y <;> cases h2 : p y <;> simp_all <;> omega
open Classical in
/-- behind as many rounds as there are places each has its part's least place -/
theorem rounds_least {ts : List Tie} {n : Nat} (ok : ∀ t ∈ ts, TieOk n t) {m p : Int} (hm : leader ts m) (h0 : 0 ≤ m ∧ m < n) (hp : Rch ts m p) : rounds ts n p = m := by
  have ge : ∀ r x, Rch ts m x → m ≤ rounds ts r x := fun r x hx => hm _ (hx.trans (rounds_rch ts r x))
  have mono : ∀ r x, rounds ts (r + 1) x ≤ rounds ts r x := fun r x => fold_le ts _ x
  have atm : ∀ r, rounds ts r m = m := fun r => by
    have h1 := ge r m Rch.refl
    have h2 : rounds ts r m ≤ m := by
      induction r with
      | zero => exact Int.le_refl _
      | succ r ih => exact Int.le_trans (mono r m) (ih (ge r m Rch.refl))
    omega
  have cnt : ∀ r, ((rng n).filter fun x => decide (Rch ts m x ∧ rounds ts r x ≠ m)).length ≤ n - r := fun r => by
    induction r with
    | zero =>
      refine Nat.le_trans (List.length_filter_le _ _) ?_
      rw [rng_length]
      omega
    | succ r ih =>
      by_cases hex : ∃ x, Rch ts m x ∧ rounds ts r x ≠ m
      · obtain ⟨x, hx, hne⟩ := hex
        -- an edge over which it comes
        have edge : ∃ a b k, Rch ts m a ∧ rounds ts r a = m ∧ Adj ts a b k ∧ rounds ts r b ≠ m := by
          by_cases hn : ∃ a b k, Rch ts m a ∧ rounds ts r a = m ∧ Adj ts a b k ∧ rounds ts r b ≠ m
          · exact hn
          · exfalso
            refine hne (hx.ind (fun y => Rch ts m y ∧ rounds ts r y = m) ⟨Rch.refl, atm r⟩ fun a b k ha k' => ⟨ha.1.trans (Rch.adj k'), ?_⟩).2
            by_cases hb : rounds ts r b = m
            · exact hb
            · exact absurd ⟨a, b, k, ha.1, ha.2, k', hb⟩ hn
        obtain ⟨a, b, k, ha, ha2, hab, hb⟩ := edge
        have hmb : Rch ts m b := ha.trans (Rch.adj hab)
        have hb' : rounds ts (r + 1) b = m := by
          have h1 := ge (r + 1) b hmb
          obtain ⟨t, ht, _, h⟩ := hab
          have ft := fold_tie ts (rounds ts r) t ht
          have h2 : rounds ts (r + 1) b ≤ m := by
            rcases h with ⟨e1, e2⟩ | ⟨e1, e2⟩
            · have q := ft.2
              rw [e1, e2, ha2] at q
              exact Int.le_trans q (by omega)
            · have q := ft.1
              rw [e1, e2, ha2] at q
              exact Int.le_trans q (by omega)
          omega
        have lt := filter_lt (p := fun x => decide (Rch ts m x ∧ rounds ts r x ≠ m)) (q := fun x => decide (Rch ts m x ∧ rounds ts (r + 1) x ≠ m)) (l := rng n) (fun x _ hq => by
          have hq := of_decide_eq_true hq
          refine decide_eq_true ⟨hq.1, fun z => hq.2 ?_⟩
          have h1 := ge (r + 1) x hq.1
          have h2 := mono r x
          omega) ⟨b, mem_rng.mpr (hmb.rng ok h0), decide_eq_true ⟨hmb, hb⟩, decide_eq_false fun z => z.2 hb'⟩
        omega
      · have e : (rng n).filter (fun x => decide (Rch ts m x ∧ rounds ts (r + 1) x ≠ m)) = [] := by
          rw [List.filter_eq_nil_iff]
          intro x _ hq
          have hq := of_decide_eq_true hq
          refine hex ⟨x, hq.1, fun z => hq.2 ?_⟩
          have h1 := ge (r + 1) x hq.1
          have h2 := mono r x
          omega
        rw [e]
        exact Nat.zero_le _
  have c := cnt n
  rw [Nat.sub_self] at c
  have e := List.eq_nil_of_length_eq_zero (Nat.le_zero.mp c)
  by_cases hne : rounds ts n p = m
  · exact hne
  · rw [List.filter_eq_nil_iff] at e
    exact absurd (decide_eq_true ⟨hp, hne⟩) (e p (mem_rng.mpr (hp.rng ok h0)))
open Classical in
/-- each has a least place -/
theorem has_leader {ts : List Tie} {n : Nat} (ok : ∀ t ∈ ts, TieOk n t) {p : Int} (h0 : 0 ≤ p ∧ p < n) : ∃ m, leader ts m ∧ (0 ≤ m ∧ m < n) ∧ Rch ts m p := by
  have key : ∀ (k : Nat) (x : Int), x = k → Rch ts p x → ∃ m, leader ts m ∧ (0 ≤ m ∧ m < n) ∧ Rch ts m p := by
    intro k
    induction k using Nat.strongRecOn with
    | ind k ih =>
      intro x hx hr
      have hxr := hr.rng ok h0
      by_cases hl : leader ts x
      · exact ⟨x, hl, hxr, hr.symm⟩
      · have hl' : ∃ q, Rch ts x q ∧ q < x := by
          by_cases h : ∃ q, Rch ts x q ∧ q < x
          · exact h
          · exfalso
            refine hl fun q hq => ?_
            by_cases h' : q < x
            · exact absurd ⟨q, hq, h'⟩ h
            · omega
        obtain ⟨q, hq, hlt⟩ := hl'
        have hqr := hq.rng ok hxr
        exact ih q.toNat (by omega) q (by omega) (hr.trans hq)
  exact key p.toNat p (by omega) Rch.refl
/-! ### rows of numbers as data -/
def IntsV (H : Hp) (v : V) (xs : List Int) : Prop := ∃ b, v = .ref b ∧ NoD H b (xs.map V.int)
theorem IntsV.tk {H H' : Hp} (k : Tk H H') {v : V} {xs : List Int} (h : IntsV H v xs) : IntsV H' v xs := by
  obtain ⟨a, rfl, e⟩ := h
  exact ⟨a, rfl, e.tk k⟩
def intsD (xs : List Int) : PyData := .tuple (xs.map PyData.int)
section
variable {K : PySem.W.Frag} {H : Hp}
theorem dp_ints : ∀ (xs : List Int), DpAll K H (xs.map V.int) (xs.map PyData.int)
  | [] => .nil
  | x :: xs => .cons (.int x) (dp_ints xs)
theorem IntsV.dp {v : V} {xs : List Int} (h : IntsV H v xs) : Dp K H v (intsD xs) := by
  obtain ⟨b, rfl, e⟩ := h
  exact .tup e.sq (dp_ints xs)
end
theorem lay_ints : ∀ xs : List Int, PyData.canLayAll0 (xs.map PyData.int) = true
  | [] => by simp [PyData.canLayAll0]
  | x :: xs => by simp [PyData.canLayAll0, PyData.canLay0, lay_ints xs]
theorem deep_ints : ∀ xs : List Int, PyData.depthAll (xs.map PyData.int) = 0
  | [] => by simp [PyData.depthAll]
  | x :: xs => by simp [PyData.depthAll, PyData.depth, deep_ints xs]
theorem lay_intsD (xs : List Int) : (intsD xs).canLay0 = true := by
  unfold intsD
  rw [PyData.canLay0]
  exact lay_ints xs
theorem deep_intsD (xs : List Int) : (intsD xs).depth = 1 := by
  unfold intsD
  rw [PyData.depth, deep_ints]
theorem shaped_intsD (xs : List Int) : SeqAt.shaped (intsD xs) = true := by
  unfold SeqAt.shaped
  rw [lay_intsD, deep_intsD]
  rfl
theorem eqv_nil (xs : List Int) : PyData.eqv (intsD xs) (intsD []) = xs.isEmpty := by
  unfold intsD
  rw [PyData.eqv]
  cases xs <;> rfl
section
variable {P : Program} {w : World} {K : PySem.W.Frag} {mg : Str → Option Value} {base : Heap}
theorem Kp.free {d c l : Addr} {H H' : Hp} (k : Kp d c H H') (h : H' l = none) (h1 : l ≠ d) (h2 : l ≠ c) : H l = none := by
  cases e : H l with
  | none => rfl
  | some o =>
    rw [k l o h1 h2 e] at h
    cases h
theorem atI_of {xs : List V} {i : Int} {v : V} (h0 : 0 ≤ i) (e : xs[i.toNat]? = some v) : atI xs i = some v := by
  obtain ⟨j, rfl⟩ : ∃ j : Nat, i = (j : Int) := ⟨i.toNat, by omega⟩
  exact atI_nat (by rw [Int.toNat_natCast] at e; exact e)
theorem atI_ints {xs : List Int} {i : Int} (h0 : 0 ≤ i) (h1 : i < xs.length) : ∃ x ∈ xs, xs[i.toNat]? = some x ∧ atI (xs.map V.int) i = some (.int x) := by
  have h : i.toNat < xs.length := by omega
  exact ⟨xs[i.toNat], List.getElem_mem h, List.getElem?_eq_getElem h, atI_of h0 (by rw [List.getElem?_map, List.getElem?_eq_getElem h]; rfl)⟩
end
/-! ### ties that sides break -/
def sd (ss : List Int) (i : Int) : Int := ss.getD i.toNat 0
def tieAt (ts : List Tie) (i : Int) : Tie := ts.getD i.toNat ⟨0, 0, false⟩
def brk (ss : List Int) (t : Tie) : Bool := decide (sd ss t.one = sd ss t.other) == t.foe
def badTo (ss : List Int) (ts : List Tie) (k : Nat) : List Int := (rng k).filter fun i => brk ss (tieAt ts i)
def bad (ss : List Int) (ts : List Tie) : List Int := badTo ss ts ts.length
theorem badTo_succ (ss : List Int) (ts : List Tie) (k : Nat) : badTo ss ts (k + 1) = badTo ss ts k ++ (if brk ss (tieAt ts k) = true then [(k : Int)] else []) := by
  unfold badTo
  rw [rng_succ, List.filter_append, List.filter_cons]
  rfl
theorem badTo_len (ss : List Int) (ts : List Tie) (k : Nat) : (badTo ss ts k).length ≤ k := by
  unfold badTo
  have := List.length_filter_le (fun i => brk ss (tieAt ts i)) (rng k)
  rw [rng_length] at this
  exact this
theorem atI_sd {ss : List Int} {i : Int} (h0 : 0 ≤ i) (h1 : i < ss.length) : atI (ss.map V.int) i = some (.int (sd ss i)) := by
  have h : i.toNat < ss.length := by omega
  refine atI_of h0 ?_
  unfold sd
  rw [List.getElem?_map, List.getElem?_eq_getElem h, List.getD_eq_getElem?_getD, List.getElem?_eq_getElem h]
  rfl
theorem tieAt_of {ts : List Tie} {i : Nat} {t : Tie} (h : ts[i]? = some t) : tieAt ts i = t := by
  unfold tieAt
  rw [Int.toNat_natCast, List.getD_eq_getElem?_getD, h]
  rfl
theorem eq_brk (x y : Int) (f : Bool) : decide (V.bl (decide (V.int x = V.int y)) = V.bl (decide (V.str (kindS f) = V.str "foe"))) = (decide (x = y) == f) := by
  have e : decide (V.int x = V.int y) = decide (x = y) := by
    by_cases h : x = y
    · rw [decide_eq_true h, decide_eq_true (by rw [h])]
    · rw [decide_eq_false h, decide_eq_false (fun z => h (V.int.inj z))]
  rw [e]
  cases decide (x = y) <;> cases f <;> rfl
theorem ne_brk (x y : Int) (f : Bool) : (!decide (V.bl (!decide (V.int x = V.int y)) = V.bl (decide (V.str (kindS f) = V.str "foe")))) = (decide (x = y) == f) := by
  have e : decide (V.int x = V.int y) = decide (x = y) := by
    by_cases h : x = y
    · rw [decide_eq_true h, decide_eq_true (by rw [h])]
    · rw [decide_eq_false h, decide_eq_false (fun z => h (V.int.inj z))]
  rw [e]
  cases decide (x = y) <;> cases f <;> rfl
def spBreaks : Sp := fun vs H Q _ => ∃ (a b : Addr) (ss : List Int) (t : Tie), vs = [.ref a, .ref b] ∧ H a = some (.tup (ss.map V.int)) ∧ H b = some (.tup [.int t.one, .int t.other, .str (kindS t.foe)]) ∧ TieOk ss.length t ∧ Q (.bl (brk ss t)) H
def spBroken : Sp := fun vs H Q _ => ∃ (v : V) (a : Addr) (n : Int) (ts : List Tie) (ss : List Int), vs = [v, .ref a] ∧ WebAt H v n ts ∧ WebOk n ts ∧ H a = some (.tup (ss.map V.int)) ∧ (ss.length : Int) = n ∧
  ∀ r H', Same H H' → H' r = some (.tup ((bad ss ts).map V.int)) → Q (.ref r) H'
/-! ### sides put over -/
def Bin (ss : List Int) : Prop := ∀ x ∈ ss, x = 0 ∨ x = 1
theorem sd_get {ss : List Int} {i : Int} (h0 : 0 ≤ i) (h1 : i < ss.length) : ∃ h : i.toNat < ss.length, sd ss i = ss[i.toNat] := by
  have h : i.toNat < ss.length := by omega
  refine ⟨h, ?_⟩
  unfold sd
  rw [List.getD_eq_getElem?_getD, List.getElem?_eq_getElem h]
  rfl
theorem sd_bin {ss : List Int} (b : Bin ss) {i : Int} (h0 : 0 ≤ i) (h1 : i < ss.length) : sd ss i = 0 ∨ sd ss i = 1 := by
  obtain ⟨h, e⟩ := sd_get h0 h1
  rw [e]
  exact b _ (List.getElem_mem h)
def over (ss : List Int) : List Int := ss.map fun s => 1 - s
theorem sd_over {ss : List Int} {i : Int} (h0 : 0 ≤ i) (h1 : i < ss.length) : sd (over ss) i = 1 - sd ss i := by
  obtain ⟨h, e⟩ := sd_get h0 h1
  obtain ⟨h', e'⟩ := sd_get (ss := over ss) h0 (by unfold over; rw [List.length_map]; exact h1)
  rw [e, e']
  simp [over]
theorem brk_over {ss : List Int} {t : Tie} (ok : TieOk ss.length t) : brk (over ss) t = brk ss t := by
  unfold brk
  rw [sd_over ok.1 ok.2.1, sd_over ok.2.2.1 ok.2.2.2.1]
  congr 1
  rw [decide_eq_decide]
  omega
theorem tieAt_mem {ts : List Tie} {i : Int} (h : i ∈ rng ts.length) : tieAt ts i ∈ ts := by
  rw [mem_rng] at h
  have h' : i.toNat < ts.length := by omega
  unfold tieAt
  rw [List.getD_eq_getElem?_getD, List.getElem?_eq_getElem h']
  exact List.getElem_mem h'
theorem bad_over {ss : List Int} {ts : List Tie} (ok : ∀ t ∈ ts, TieOk ss.length t) : bad (over ss) ts = bad ss ts := by
  unfold bad badTo
  exact List.filter_congr fun i hi => brk_over (ok _ (tieAt_mem hi))
def moved (ss : List Int) (p : Int) : List Int := ss.set p.toNat (1 - sd ss p)
theorem moved_len (ss : List Int) (p : Int) : (moved ss p).length = ss.length := by unfold moved; rw [List.length_set]
theorem sd_moved {ss : List Int} {p i : Int} (p0 : 0 ≤ p) (p1 : p < ss.length) (h0 : 0 ≤ i) (h1 : i < ss.length) : sd (moved ss p) i = if i = p then 1 - sd ss p else sd ss i := by
  show (ss.set p.toNat (1 - sd ss p)).getD i.toNat 0 = _
  rw [List.getD_eq_getElem?_getD, List.getElem?_set]
  by_cases hp : i = p
  · subst hp
    rw [if_pos rfl, if_pos (by omega), if_pos rfl]
    rfl
  · rw [if_neg (by omega), if_neg hp]
    unfold sd
    rw [List.getD_eq_getElem?_getD]
theorem brk_moved {ss : List Int} (b : Bin ss) {t : Tie} {p : Int} (ok : TieOk ss.length t) (p0 : 0 ≤ p) (p1 : p < ss.length) : brk (moved ss p) t = (brk ss t != (t.one == p || t.other == p)) := by
  unfold brk
  rw [sd_moved p0 p1 ok.1 ok.2.1, sd_moved p0 p1 ok.2.2.1 ok.2.2.2.1]
  have b1 := sd_bin b ok.1 ok.2.1
  have b2 := sd_bin b ok.2.2.1 ok.2.2.2.1
  have ne := ok.2.2.2.2
  by_cases h1 : t.one = p
  · have h2 : t.other ≠ p := fun z => ne (h1.trans z.symm)
    rw [if_pos h1, if_neg h2, ← h1]
    have e1 : (t.one == t.one) = true := by simp
    rw [e1, Bool.true_or]
    rcases b1 with e | e <;> rcases b2 with e' | e' <;> rw [e, e'] <;> cases t.foe <;> rfl
  · rw [if_neg h1]
    have e1 : (t.one == p) = false := by simp [h1]
    rw [e1, Bool.false_or]
    by_cases h2 : t.other = p
    · rw [if_pos h2, ← h2]
      have e2 : (t.other == t.other) = true := by simp
      rw [e2]
      rcases b1 with e | e <;> rcases b2 with e' | e' <;> rw [e, e'] <;> cases t.foe <;> rfl
    · rw [if_neg h2]
      have e2 : (t.other == p) = false := by simp [h2]
      rw [e2, Bool.bne_false]
theorem moved_cut {ss : List Int} {p : Int} (p0 : 0 ≤ p) (p1 : p < ss.length) : cutV (ss.map V.int) none (some p) ++ [V.int (1 - sd ss p)] ++ cutV (ss.map V.int) (some (p + 1)) none = (moved ss p).map V.int := by
  obtain ⟨k, rfl⟩ : ∃ k : Nat, p = k := ⟨p.toNat, by omega⟩
  have hk : k < ss.length := by omega
  have e1 : cutV (ss.map V.int) none (some (k : Int)) = (ss.take k).map V.int := by
    unfold cutV
    rw [HT.sIx_none, HT.sIx_nat, List.length_map, Nat.min_eq_left (by omega), List.drop_zero, List.map_take]
    rfl
  have e2 : cutV (ss.map V.int) (some ((k : Int) + 1)) none = (ss.drop (k + 1)).map V.int := by
    unfold cutV
    rw [HT.sIx_none, show ((k : Int) + 1) = ((k + 1 : Nat) : Int) from by omega, HT.sIx_nat, List.length_map, Nat.min_eq_left (by omega), List.map_drop]
    exact List.take_of_length_le (by rw [List.length_drop, List.length_map]; omega)
  rw [e1, e2]
  unfold moved
  rw [Int.toNat_natCast, List.set_eq_take_append_cons_drop, if_pos hk]
  simp
theorem in_bad {ss : List Int} {ts : List Tie} {i : Nat} (hi : i < ts.length) : inV (.int (i : Int)) ((bad ss ts).map V.int) = brk ss (tieAt ts i) := by
  rw [Bool.eq_iff_iff]
  unfold inV
  rw [List.any_map, List.any_eq_true]
  unfold bad badTo
  constructor
  · rintro ⟨x, hx, e⟩
    have e' : (x == (i : Int)) = true := e
    rw [beq_iff_eq] at e'
    subst e'
    exact (List.mem_filter.mp hx).2
  · intro h
    exact ⟨i, List.mem_filter.mpr ⟨mem_rng.mpr (by omega), h⟩, by show ((i : Int) == (i : Int)) = true; simp⟩
theorem flat_ints (xs : List Int) : (xs.map V.int).all flatV = true := by
  rw [List.all_map, List.all_eq_true]
  intro x _
  rfl
theorem in_two (p x y : Int) : inV (.int p) [.int x, .int y] = (x == p || y == p) := by
  show ((x == p) || ((y == p) || false)) = _
  rw [Bool.or_false]
theorem ne_bl (a b : Bool) : (!decide (V.bl a = V.bl b)) = (a != b) := by cases a <;> cases b <;> rfl
/-! ### the fixed choice: the mathematics -/
def Cons (ss : List Int) (ts : List Tie) : Prop := ∀ t ∈ ts, brk ss t = false
def Odd (ts : List Tie) (n : Nat) : Prop := ∃ x : Int, (0 ≤ x ∧ x < n) ∧ RP ts x x true
def one? (ss : List Int) (i : Int) : Bool := decide (sd ss i = 1)
structure Told (ts : List Tie) (n : Nat) (ss : List Int) : Prop where
  len : ss.length = n
  bin : Bin ss
  each : ∀ i : Int, 0 ≤ i → i < n → ∃ m, leader ts m ∧ RP ts m i (one? ss i)
theorem brk_one {ss : List Int} (b : Bin ss) {t : Tie} (ok : TieOk ss.length t) : brk ss t = ((one? ss t.one ^^ one? ss t.other) ^^ t.foe) := by
  unfold brk one?
  have b1 := sd_bin b ok.1 ok.2.1
  have b2 := sd_bin b ok.2.2.1 ok.2.2.2.1
  rcases b1 with e | e <;> rcases b2 with e' | e' <;> rw [e, e'] <;> cases t.foe <;> decide
theorem cons_adj {ss : List Int} {ts : List Tie} (b : Bin ss) (ok : ∀ t ∈ ts, TieOk ss.length t) (h : Cons ss ts) {x y : Int} {k : Bool} (ad : Adj ts x y k) : (one? ss x ^^ one? ss y) = k := by
  obtain ⟨t, ht, rfl, h1⟩ := ad
  have e := h t ht
  rw [brk_one b (ok t ht)] at e
  rcases h1 with ⟨rfl, rfl⟩ | ⟨rfl, rfl⟩
  · revert e
    cases one? ss t.one <;> cases one? ss t.other <;> cases t.foe <;> simp
  · revert e
    cases one? ss t.one <;> cases one? ss t.other <;> cases t.foe <;> simp
theorem cons_walk {ss : List Int} {ts : List Tie} (b : Bin ss) (ok : ∀ t ∈ ts, TieOk ss.length t) (h : Cons ss ts) {x y : Int} {p : Bool} (r : RP ts x y p) : (one? ss x ^^ one? ss y) = p := by
  induction r with
  | nil => rw [Bool.xor_self]
  | step _ ad ih =>
    rw [← ih, ← cons_adj b ok h ad]
    rename_i u v p k _
    cases one? ss x <;> cases one? ss u <;> cases one? ss v <;> rfl
theorem cons_no_odd {ss : List Int} {ts : List Tie} {n : Nat} (b : Bin ss) (ok : ∀ t ∈ ts, TieOk ss.length t) (h : Cons ss ts) : ¬ Odd ts n := by
  rintro ⟨x, _, r⟩
  have := cons_walk b ok h r
  rw [Bool.xor_self] at this
  cases this
theorem leader_one {ts : List Tie} {m m' i : Int} (h : leader ts m) (h' : leader ts m') (r : Rch ts m i) (r' : Rch ts m' i) : m = m' := by
  have h1 := h m' (r.trans r'.symm)
  have h2 := h' m (r'.trans r.symm)
  omega
theorem told_unique {ts : List Tie} {n : Nat} {ss zs : List Int} (ok : ∀ t ∈ ts, TieOk n t) (h : Told ts n ss) (g : Told ts n zs) (c : Cons ss ts) : ss = zs := by
  refine List.ext_getElem? fun j => ?_
  by_cases hj : j < n
  · obtain ⟨m, l1, r1⟩ := h.each j (by omega) (by omega)
    obtain ⟨m', l2, r2⟩ := g.each j (by omega) (by omega)
    obtain rfl := leader_one l1 l2 ⟨_, r1⟩ ⟨_, r2⟩
    have w := cons_walk h.bin (by rw [h.len]; exact ok) c (r1.trans r2.symm)
    rw [Bool.xor_self] at w
    have e : one? ss j = one? zs j := by
      revert w
      cases one? ss (j : Int) <;> cases one? zs (j : Int) <;> simp
    have b1 := sd_bin h.bin (i := j) (by omega) (by rw [h.len]; omega)
    have b2 := sd_bin g.bin (i := j) (by omega) (by rw [g.len]; omega)
    obtain ⟨h1, e1⟩ := sd_get (ss := ss) (i := j) (by omega) (by rw [h.len]; omega)
    obtain ⟨h2, e2⟩ := sd_get (ss := zs) (i := j) (by omega) (by rw [g.len]; omega)
    have es : sd ss j = sd zs j := by
      unfold one? at e
      rcases b1 with x | x <;> rcases b2 with y | y <;> rw [x, y] at e ⊢ <;> revert e <;> decide
    rw [Int.toNat_natCast] at h1 h2
    rw [List.getElem?_eq_getElem h1, List.getElem?_eq_getElem h2]
    have : ss[j] = zs[j] := by
      have q1 : sd ss j = ss[j] := e1
      have q2 : sd zs j = zs[j] := e2
      rw [← q1, ← q2, es]
    rw [this]
  · rw [List.getElem?_eq_none (by rw [h.len]; omega), List.getElem?_eq_none (by rw [g.len]; omega)]
theorem told_odd {ts : List Tie} {n : Nat} {ss : List Int} (ok : ∀ t ∈ ts, TieOk n t) (h : Told ts n ss) {t : Tie} (ht : t ∈ ts) (hb : brk ss t = true) : Odd ts n := by
  have okt := ok t ht
  obtain ⟨m, l1, r1⟩ := h.each t.one okt.1 okt.2.1
  obtain ⟨m', l2, r2⟩ := h.each t.other okt.2.2.1 okt.2.2.2.1
  have ad : Adj ts t.one t.other t.foe := ⟨t, ht, rfl, .inl ⟨rfl, rfl⟩⟩
  obtain rfl := leader_one l1 l2 (Rch.trans ⟨_, r1⟩ (Rch.adj ad)) ⟨_, r2⟩
  have w := (r1.step ad).trans r2.symm
  refine ⟨m, Rch.rng ok ⟨okt.1, okt.2.1⟩ ⟨_, r1.symm⟩, ?_⟩
  have e : ((one? ss t.one ^^ t.foe) ^^ one? ss t.other) = true := by
    rw [brk_one h.bin (by rw [h.len]; exact okt)] at hb
    revert hb
    cases one? ss t.one <;> cases one? ss t.other <;> cases t.foe <;> simp
  rw [← e]
  exact w
theorem bad_nil {ss : List Int} {ts : List Tie} : bad ss ts = [] ↔ Cons ss ts := by
  unfold bad badTo Cons
  rw [List.filter_eq_nil_iff]
  constructor
  · intro h t ht
    obtain ⟨j, hj⟩ := List.getElem?_of_mem ht
    have hl := (List.getElem?_eq_some_iff.mp hj).1
    have := h j (mem_rng.mpr (by omega))
    rw [tieAt_of hj] at this
    simpa using this
  · intro h i hi
    rw [h _ (tieAt_mem hi)]
    decide
/-! ### groups by their least places, sides along the ties -/
theorem RP.mono {ts ts' : List Tie} (h : ∀ t ∈ ts, t ∈ ts') {a b : Int} {p : Bool} (r : RP ts a b p) : RP ts' a b p := by
  induction r with
  | nil => exact .nil
  | step _ ad ih =>
    obtain ⟨t, ht, e, q⟩ := ad
    exact ih.step ⟨t, h t ht, e, q⟩
def bit (x : Int) : Bool := decide (x = 1)
structure GS (ts : List Tie) (n : Nat) (g s : Int → Int) (good : Bool) : Prop where
  rp : ∀ i : Int, 0 ≤ i → i < n → RP ts (g i) i (bit (s i))
  le : ∀ i : Int, 0 ≤ i → i < n → 0 ≤ g i ∧ g i ≤ i
  bn : ∀ i : Int, 0 ≤ i → i < n → s i = 0 ∨ s i = 1
  eq : ∀ t ∈ ts, g t.one = g t.other
  yes : good = true → ∀ t ∈ ts, (bit (s t.one) ^^ bit (s t.other)) = t.foe
  no : good = false → Odd ts n
theorem GS.nil (n : Nat) : GS [] n (fun i => i) (fun _ => 0) true :=
  ⟨fun i _ _ => .nil, fun i h _ => ⟨h, Int.le_refl _⟩, fun _ _ _ => .inl rfl, fun t h => by simp at h, fun _ t h => by simp at h, fun h => by cases h⟩
theorem GS.same {ts : List Tie} {n : Nat} {g s : Int → Int} {good : Bool} (h : GS ts n g s good) {a b : Int} (r : Rch ts a b) : g a = g b :=
  r.ind (fun x => g a = g x) rfl fun x y k e ad => by
    obtain ⟨t, ht, _, q⟩ := ad
    have := h.eq t ht
    rcases q with ⟨rfl, rfl⟩ | ⟨rfl, rfl⟩
    · rw [e, this]
    · rw [e, this]
theorem GS.lead {ts : List Tie} {n : Nat} {g s : Int → Int} {good : Bool} (ok : ∀ t ∈ ts, TieOk n t) (h : GS ts n g s good) {i : Int} (h0 : 0 ≤ i) (h1 : i < n) : leader ts (g i) := fun q hq => by
  have e1 := h.same hq
  have e2 := h.same (⟨_, h.rp i h0 h1⟩ : Rch ts (g i) i)
  have r := hq.rng ok ⟨(h.le i h0 h1).1, by have := (h.le i h0 h1).2; omega⟩
  have := (h.le q r.1 r.2).2
  omega
def gNew (g : Int → Int) (low high : Int) : Int → Int := fun x => if low < high ∧ g x = high then low else g x
def sNew (g s : Int → Int) (low high turn : Int) : Int → Int := fun x => if low < high ∧ g x = high then (s x + turn) % 2 else s x
theorem bit_add {a b : Int} (ha : a = 0 ∨ a = 1) (hb : b = 0 ∨ b = 1) : bit ((a + b) % 2) = (bit a ^^ bit b) ∧ ((a + b) % 2 = 0 ∨ (a + b) % 2 = 1) := by
  rcases ha with rfl | rfl <;> rcases hb with rfl | rfl <;> decide
theorem GS.step {ts : List Tie} {n : Nat} {g s : Int → Int} {good : Bool} (h : GS ts n g s good) (okts : ∀ t ∈ ts, TieOk n t) {t : Tie} (ok : TieOk n t) {low high turn : Int} (hlow : low = min (g t.one) (g t.other)) (hhigh : high = max (g t.one) (g t.other)) (ht : turn = (s t.one + s t.other + (if t.foe = true then 1 else 0)) % 2) :
    GS (ts ++ [t]) n (gNew g low high) (sNew g s low high turn) (if low = high then good && decide (turn = 0) else good) := by
  have mono : ∀ x ∈ ts, x ∈ ts ++ [t] := fun x hx => List.mem_append_left _ hx
  have ad : Adj (ts ++ [t]) t.one t.other t.foe := ⟨t, by simp, rfl, .inl ⟨rfl, rfl⟩⟩
  have r1 := (h.rp t.one ok.1 ok.2.1).mono mono
  have r2 := (h.rp t.other ok.2.2.1 ok.2.2.2.1).mono mono
  have b1 := h.bn t.one ok.1 ok.2.1
  have b2 := h.bn t.other ok.2.2.1 ok.2.2.2.1
  have bt : bit turn = ((bit (s t.one) ^^ bit (s t.other)) ^^ t.foe) ∧ (turn = 0 ∨ turn = 1) := by
    rw [ht]
    rcases b1 with e | e <;> rcases b2 with e' | e' <;> rw [e, e'] <;> cases t.foe <;> decide
  have cross : low < high → RP (ts ++ [t]) low high (bit turn) := fun hl => by
    by_cases hc : g t.one ≤ g t.other
    · have e1 : low = g t.one := by omega
      have e2 : high = g t.other := by omega
      have w := (r1.step ad).trans r2.symm
      rw [e1, e2, bt.1]
      rw [show ((bit (s t.one) ^^ bit (s t.other)) ^^ t.foe) = ((bit (s t.one) ^^ t.foe) ^^ bit (s t.other)) from by cases bit (s t.one) <;> cases bit (s t.other) <;> cases t.foe <;> rfl]
      exact w
    · have e1 : low = g t.other := by omega
      have e2 : high = g t.one := by omega
      have w := (r2.step ad.symm).trans r1.symm
      rw [e1, e2, bt.1]
      rw [show ((bit (s t.one) ^^ bit (s t.other)) ^^ t.foe) = ((bit (s t.other) ^^ t.foe) ^^ bit (s t.one)) from by cases bit (s t.one) <;> cases bit (s t.other) <;> cases t.foe <;> rfl]
      exact w
  refine ⟨fun i h0 h1 => ?_, fun i h0 h1 => ?_, fun i h0 h1 => ?_, fun x hx => ?_, fun hg x hx => ?_, fun hg => ?_⟩
  · unfold gNew sNew
    by_cases hc : low < high ∧ g i = high
    · rw [if_pos hc, if_pos hc, (bit_add (h.bn i h0 h1) bt.2).1, Bool.xor_comm]
      have w := (h.rp i h0 h1).mono mono
      rw [hc.2] at w
      exact (cross hc.1).trans w
    · rw [if_neg hc, if_neg hc]
      exact (h.rp i h0 h1).mono mono
  · unfold gNew
    have l := h.le i h0 h1
    have l1 := h.le t.one ok.1 ok.2.1
    have l2 := h.le t.other ok.2.2.1 ok.2.2.2.1
    split
    · omega
    · exact l
  · unfold sNew
    split
    · exact (bit_add (h.bn i h0 h1) bt.2).2
    · exact h.bn i h0 h1
  · unfold gNew
    rcases List.mem_append.mp hx with hx | hx
    · rw [h.eq x hx]
    · rw [List.mem_singleton.mp hx]
      split <;> split <;> omega
  · rcases List.mem_append.mp hx with hx | hx
    · have hgood : good = true := by
        by_cases e : low = high
        · rw [if_pos e] at hg
          revert hg
          cases good <;> simp
        · rw [if_neg e] at hg
          exact hg
      have q := h.yes hgood x hx
      have e := h.eq x hx
      unfold sNew
      by_cases hc : low < high ∧ g x.one = high
      · have hc' : low < high ∧ g x.other = high := ⟨hc.1, by rw [← e]; exact hc.2⟩
        have okx := okts x hx
        rw [if_pos hc, if_pos hc', (bit_add (h.bn x.one okx.1 okx.2.1) bt.2).1, (bit_add (h.bn x.other okx.2.2.1 okx.2.2.2.1) bt.2).1, ← q]
        cases bit (s x.one) <;> cases bit (s x.other) <;> cases bit turn <;> rfl
      · have hc' : ¬ (low < high ∧ g x.other = high) := fun z => hc ⟨z.1, by rw [e]; exact z.2⟩
        rw [if_neg hc, if_neg hc']
        exact q
    · rw [List.mem_singleton.mp hx]
      unfold sNew
      by_cases e : low = high
      · rw [if_pos e] at hg
        have h0 : turn = 0 := by
          revert hg
          cases good <;> simp
        rw [if_neg (by omega), if_neg (by omega)]
        have z := bt.1
        rw [h0] at z
        revert z
        cases bit (s t.one) <;> cases bit (s t.other) <;> cases t.foe <;> decide
      · have hlt : low < high := by omega
        by_cases hc : g t.one ≤ g t.other
        · rw [if_neg (by omega), if_pos ⟨hlt, by omega⟩, (bit_add b2 bt.2).1, bt.1]
          cases bit (s t.one) <;> cases bit (s t.other) <;> cases t.foe <;> rfl
        · rw [if_pos ⟨hlt, by omega⟩, if_neg (by omega), (bit_add b1 bt.2).1, bt.1]
          cases bit (s t.one) <;> cases bit (s t.other) <;> cases t.foe <;> rfl
  · have old : good = false → Odd (ts ++ [t]) n := fun e => by
      obtain ⟨x, hx, r⟩ := h.no e
      exact ⟨x, hx, r.mono mono⟩
    by_cases e : low = high
    · rw [if_pos e] at hg
      cases hgood : good
      · exact old hgood
      · rw [hgood] at hg
        have h1 : turn = 1 := by
          rcases bt.2 with z | z
          · rw [z] at hg
            cases hg
          · exact z
        have eg : g t.one = g t.other := by omega
        have w := (r1.step ad).trans (eg ▸ r2).symm
        refine ⟨g t.one, ?_, ?_⟩
        · have := h.le t.one ok.1 ok.2.1
          have := ok.2.1
          omega
        · have z := bt.1
          rw [h1] at z
          rw [show ((bit (s t.one) ^^ t.foe) ^^ bit (s t.other)) = true from by
            revert z
            cases bit (s t.one) <;> cases bit (s t.other) <;> cases t.foe <;> decide] at w
          exact w
    · rw [if_neg e] at hg
      exact old hg
/-! ### d.update(e) -/
def rUpdate : V → List V → Hp → VK → Prop := fun x vs H Q => ∃ (a b : Addr) (kvs more : List (Key × V)), x = .ref a ∧ vs = [.ref b] ∧ H a = some (.dK kvs) ∧ H b = some (.dK more) ∧ a ≠ b ∧ kvs.length + more.length ≤ sizeLine ∧ Q .non (upd H a (.dK (mergeK kvs more)))
theorem mt_update {X : Cx} : MtR X "dict.update" rUpdate := by
  intro pins s σ H x vs v us Q I rx rv h
  obtain ⟨a, b, kvs, more, ex, ev, e1, e2, ne, hl, q⟩ := h
  subst ex
  subst ev
  obtain rfl : v = Value.ref a := rx
  obtain ⟨u, eu, r1⟩ := vals1 rv
  subst eu
  obtain rfl : u = Value.ref b := r1
  obtain ⟨z1, hd1, vs1, rel1, dd1⟩ := dk_of I.hok e1
  obtain ⟨z2, hd2, vs2, rel2, dd2⟩ := dk_of I.hok e2
  refine call_meetsIn PySem.F.slot_dict_update dd1.typeIs PySem.F.entry_dict_update (PySem.F.args_dict_update_2 _ _) (meets_dict_update (mixKind X.prog X.w) a b ne hd2) ⟨vs1, vs2, dd1, dd2, by rw [← rel1.length, ← rel2.length]; exact hl, fun h' dd' _ hs => ⟨.non, _, ?_, rfl, q⟩⟩
  have he : ∃ q, h'.get? a = some q := let ⟨q, _, _, hq, _⟩ := dd'; ⟨q, hq⟩
  exact d_write (t' := s.toks) I (by rw [e1]; exact True.intro) hs he (dk_new (Nat.le_trans (length_mergeK more kvs) hl) hd1 (rel2.merge rel1) dd')
/-! ### for each place its ties -/
theorem Same.mut {H H' : Hp} {a : Addr} {o : HO} (s : Same H H') (h : H a = none) : Same H (upd H' a o) := fun b x e => by
  rw [upd_ne (ne_of_none e h)]
  exact s b x e
abbrev Nb := Int × Bool
def NbV (H : Hp) (v : V) (p : Nb) : Prop := ∃ a, v = .ref a ∧ H a = some (.tup [.int p.1, .str (kindS p.2)])
theorem NbV.tk {H H' : Hp} (k : Tk H H') {v : V} {p : Nb} (h : NbV H v p) : NbV H' v p := by
  obtain ⟨a, rfl, e⟩ := h
  exact ⟨a, rfl, k _ _ e⟩
structure Around (H : Hp) (L : Addr) (As : List Addr) (N : Nat → List Nb) : Prop where
  at' : H L = some (.lst (As.map V.ref))
  nd : As.Nodup
  each : ∀ j a, As[j]? = some a → ∃ vs, H a = some (.lst vs) ∧ Paired (NbV H) vs (N j)
  out : L ∉ As
theorem Around.same {H H' : Hp} {L : Addr} {As : List Addr} {N : Nat → List Nb} (h : Around H L As N) (s : Same H H') : Around H' L As N :=
  ⟨s _ _ h.at', h.nd, fun j a e => by
    obtain ⟨vs, h1, h2⟩ := h.each j a e
    exact ⟨vs, s _ _ h1, Paired.mono (fun _ _ x => x.tk (Same.tk s)) h2⟩, h.out⟩
theorem Around.put {H : Hp} {L q : Addr} {As : List Addr} {N : Nat → List Nb} (h : Around H L As N) {j : Nat} {a : Addr} {vs : List V} {p : Nb} (ea : As[j]? = some a) (ev : H a = some (.lst vs)) (eq : NbV H (.ref q) p) :
    Around (upd H a (.lst (vs ++ [.ref q]))) L As (fun i => N i ++ if i = j then [p] else []) := by
  have k : Tk H (upd H a (.lst (vs ++ [.ref q]))) := tk_lst ev
  refine ⟨?_, h.nd, fun i b e => ?_, h.out⟩
  · have ne : L ≠ a := fun z => h.out (by rw [z]; exact List.mem_of_getElem? ea)
    rw [upd_ne ne]
    exact h.at'
  · obtain ⟨ws, h1, h2⟩ := h.each i b e
    by_cases hij : i = j
    · subst hij
      rw [ea] at e
      cases e
      rw [ev] at h1
      cases h1
      refine ⟨_, upd_same, ?_⟩
      rw [if_pos rfl]
      exact Paired.snoc (Paired.mono (fun _ _ x => x.tk k) h2) (eq.tk k)
    · have ne : b ≠ a := fun z => hij (by
        subst z
        exact (List.getElem?_inj (List.getElem?_eq_some_iff.mp e).1 h.nd).mp (e.trans ea.symm))
      refine ⟨ws, by rw [upd_ne ne]; exact h1, ?_⟩
      rw [if_neg hij, List.append_nil]
      exact Paired.mono (fun _ _ x => x.tk k) h2
def nb1 (t : Tie) (i : Int) : List Nb := (if i = t.one then [(t.other, t.foe)] else []) ++ (if i = t.other then [(t.one, t.foe)] else [])
def nbs (ts : List Tie) (i : Int) : List Nb := ts.flatMap fun t => nb1 t i
theorem nbs_snoc (ts : List Tie) (t : Tie) (i : Int) : nbs (ts ++ [t]) i = nbs ts i ++ nb1 t i := by
  unfold nbs
  rw [List.flatMap_append]
  simp
theorem nb1_len (t : Tie) (i : Int) : (nb1 t i).length ≤ 2 := by
  unfold nb1
  rw [List.length_append]
  split <;> split <;> simp
theorem nbs_len (ts : List Tie) (i : Int) : (nbs ts i).length ≤ 2 * ts.length := by
  induction ts with
  | nil => simp [nbs]
  | cons t ts ih =>
    have h := nb1_len t i
    unfold nbs at ih ⊢
    rw [List.flatMap_cons, List.length_append, List.length_cons]
    omega
theorem mem_nbs {ts : List Tie} {i : Int} {p : Nb} : p ∈ nbs ts i ↔ Adj ts i p.1 p.2 := by
  unfold nbs Adj nb1
  rw [List.mem_flatMap]
  constructor
  · rintro ⟨t, ht, h⟩
    refine ⟨t, ht, ?_⟩
    rcases List.mem_append.mp h with h | h
    · split at h
      · rename_i e
        rw [List.mem_singleton] at h
        subst h
        exact ⟨rfl, .inl ⟨e.symm, rfl⟩⟩
      · simp at h
    · split at h
      · rename_i e
        rw [List.mem_singleton] at h
        subst h
        exact ⟨rfl, .inr ⟨rfl, e.symm⟩⟩
      · simp at h
  · rintro ⟨t, ht, e, h⟩
    refine ⟨t, ht, List.mem_append.mpr ?_⟩
    obtain ⟨p1, p2⟩ := p
    simp only at e h
    rcases h with ⟨h1, h2⟩ | ⟨h1, h2⟩
    · left
      rw [if_pos h1.symm, List.mem_singleton, ← e, ← h2]
    · right
      rw [if_pos h2.symm, List.mem_singleton, ← e, ← h1]
/-- the list that neighbours tells -/
def AroundAt (H : Hp) (v : V) (n : Int) (ts : List Tie) : Prop := ∃ L As, v = .ref L ∧ (As.length : Int) = n ∧ Around H L As (fun j => nbs ts j)
theorem AroundAt.same {H H' : Hp} {v : V} {n : Int} {ts : List Tie} (h : AroundAt H v n ts) (s : Same H H') : AroundAt H' v n ts := by
  obtain ⟨L, As, rfl, h1, h2⟩ := h
  exact ⟨L, As, rfl, h1, h2.same s⟩
def spNeighbours : Sp := fun vs H Q _ => ∃ (v : V) (n : Int) (ts : List Tie), vs = [v] ∧ WebAt H v n ts ∧ WebOk n ts ∧
  ∀ v' H', AroundAt H' v' n ts → Same H H' → Q v' H'
section
variable {P : Program} {w : World} {K : PySem.W.Frag} {mg : Str → Option Value} {base : Heap}
theorem ok_neighbours {f : Addr} {fd : FuncData} (F : Fun K "neighbours" "neighbours" s_neighbours f fd) (M : Free mg) : FnOk P w K mg base CX0 1 f fd ["web"] spNeighbours := by
  refine F.ok sc_neighbours (fun vs H Q E h => ?_) (fun cdv A outer s H vs Q E hr h => ?_)
  · obtain ⟨v, n, ts, rfl, _⟩ := h
    rfl
  · obtain ⟨v, n, ts, rfl, ⟨a, b, us, rfl, ha, hb, hp⟩, ok, q⟩ := h
    refine ⟨_, (pss_cons (ps_asg (pv 0) (pg_tup rfl (pgs_cons (pg_name (i := 1) sc_neighbours.nd rfl (.inl rfl)) (pgs_cons (pg_name (i := 2) sc_neighbours.nd rfl (.inl rfl)) pgs_nil))))
      (pss_cons (ps_setLc (i := 3) (own := [("place", 4)]) (g := gName 4) (tt := tYes) rfl sc_neighbours.nd rfl rfl (sw_true rfl rfl rfl (by decide +kernel)) (pi_range1 (by rfl) M.range (pa_cons (pv 1) pa_nil)) (blkOk_by (N := N_neighbours) (sc := defScope s_neighbours) (own := [("place", 4)]) (by decide +kernel)) (fun _ _ _ _ _ => (pg_name (i := 4) sc_neighbours.nd rfl (.inl rfl))) (fun _ _ _ _ _ => pts_nil) (fun _ _ _ _ _ => (pe_lst pa_nil)))
      (pss_cons (ps_for PassesOwn.never rfl (pi_tup (pv 2)) (pg_tup rfl (pgs_cons (pg_name (i := 5) sc_neighbours.nd rfl (.inl rfl)) (pgs_cons (pg_name (i := 6) sc_neighbours.nd rfl (.inl rfl)) (pgs_cons (pg_name (i := 7) sc_neighbours.nd rfl (.inl rfl)) pgs_nil))))
        (pss_cons (ps_expr (pe_bm PySem.F.plainAttrs_list PySem.F.slot_list_append PySem.F.type_list_append mt_append (pe_ix ix_list (pv 3) (pv 5) (fun _ _ => rfl)) (pa_cons (pe_tup (pa_cons (pv 6) (pa_cons (pv 7) pa_nil))) pa_nil)))
        (pss_one (ps_expr (pe_bm PySem.F.plainAttrs_list PySem.F.slot_list_append PySem.F.type_list_append mt_append (pe_ix ix_list (pv 3) (pv 6) (fun _ _ => rfl)) (pa_cons (pe_tup (pa_cons (pv 5) (pa_cons (pv 7) pa_nil))) pa_nil))))))
      (pss_one (ps_ret (pv 3)))))), ?_⟩
    obtain ⟨k, rfl⟩ : ∃ k : Nat, n = k := ⟨n.toNat, by have := ok.lo; omega⟩
    have hk : k ≤ 40 := by have := ok.hi; omega
    -- many, ties = web
    refine ⟨.ref a, rfl, a, _, rfl, SqT.of ha, rfl, _, _, rfl, _, _, rfl, rfl, ?_⟩
    -- around
    refine ⟨.int k, rfl, k, rfl, by omega, by omega, fun L nL => ?_⟩
    rw [Int.toNat_natCast]
    refine lc_range (lo := 0) (n := k) (fun i H' => ∃ As : List Addr, As.length = i ∧ Around H' L As (fun _ => []) ∧ (∀ x ∈ As, H x = none) ∧ Same H H') ?_ ?_ ?_
    · exact ⟨[], rfl, ⟨upd_same, List.nodup_nil, fun j a e => by simp at e, by simp⟩, fun x hx => by simp at hx, same_new nL⟩
    · rintro i H1 hi ⟨As, hl, hA, hf, s1⟩
      refine ⟨rfl, Nat.zero_le _, fun p np => ?_⟩
      have hA2 := hA.same (same_new (o := .lst []) np)
      refine ⟨_, hA2.at', by rw [List.length_map]; exact small1000 (by omega), As ++ [p], by rw [List.length_append, hl]; rfl, ?_, fun x hx => ?_, Same.mut (s1.trans (same_new np)) nL⟩
      · have npA : p ∉ As := fun z => by
          obtain ⟨j, hj⟩ := List.getElem?_of_mem z
          obtain ⟨vs, h1, _⟩ := hA.each j p hj
          rw [np] at h1
          cases h1
        have npL : p ≠ L := fun z => by
          have h1 := hA.at'
          rw [← z, np] at h1
          cases h1
        refine ⟨by rw [upd_same, List.map_append]; rfl, ?_, fun j x e => ?_, ?_⟩
        · rw [List.nodup_append]
          refine ⟨hA.nd, by simp, fun x hx y hy z => ?_⟩
          rw [List.mem_singleton] at hy
          subst hy
          subst z
          exact npA hx
        · have hx : x ≠ L := fun z => by
            subst z
            rcases List.mem_append.mp (List.mem_of_getElem? e) with h | h
            · exact hA.out h
            · exact npL (List.mem_singleton.mp h).symm
          rcases List.mem_append.mp (List.mem_of_getElem? e) with h | h
          · obtain ⟨j2, e2⟩ := List.getElem?_of_mem h
            obtain ⟨vs, h1, h2⟩ := hA2.each j2 x e2
            cases h2
            exact ⟨[], by rw [upd_ne hx]; exact h1, .nil⟩
          · rw [List.mem_singleton] at h
            subst h
            exact ⟨[], by rw [upd_ne hx]; exact upd_same, .nil⟩
        · intro z
          rcases List.mem_append.mp z with h | h
          · exact hA.out h
          · exact npL (List.mem_singleton.mp h).symm
      · rcases List.mem_append.mp hx with h | h
        · exact hf x h
        · rw [List.mem_singleton.mp h]
          exact s1.free np
    rintro H0 ⟨As, hl, hA, hf, s0⟩
    have nLH : H L = none := nL
    -- the loop
    refine ⟨.ref b, rfl, b, rfl, ⟨_, SqT.of (s0 _ _ hb)⟩, ?_⟩
    have hlen : us.length = ts.length := Paired.length hp
    refine for_tup (xs := us) (fun i σ' H' => ∃ y5 y6 y7 : Option V, σ' = [some (.ref a), some (.int k), some (.ref b), some (.ref L), none, y5, y6, y7] ∧ Around H' L As (fun j => nbs (ts.take i) j) ∧ Same H H') ?_ ?_ ?_ ?_
    · exact ⟨none, none, none, rfl, hA, s0⟩
    · rintro i σ' H' _ ⟨y5, y6, y7, rfl, hA1, s1⟩
      exact SqT.of (s1 _ _ hb)
    · rintro i x σ' H1 ex ⟨y5, y6, y7, rfl, hA1, s1⟩
      obtain ⟨t, et, c, rfl, hc⟩ := Paired.at hp ex
      have okt := ok.ok t (List.mem_of_getElem? et)
      have hti := (List.getElem?_eq_some_iff.mp et).1
      have etk : ts.take (i + 1) = ts.take i ++ [t] := by
        rw [List.take_add_one, et]
        rfl
      have hts := ok.few
      refine ⟨c, _, rfl, SqT.of (s1 _ _ hc), rfl, _, _, rfl, _, _, rfl, _, _, rfl, rfl, ?_⟩
      obtain ⟨o1, o2, o3, o4, o5⟩ := okt
      -- the first
      obtain ⟨x1, e1, e1'⟩ := getI (xs := As) o1 (by omega)
      obtain ⟨vs1, g1, p1⟩ := hA1.each _ _ e1'
      have l1 := Paired.length p1
      have l1' := nbs_len (ts.take i) (t.one.toNat : Int)
      rw [List.length_take] at l1'
      refine ⟨.ref L, rfl, .int t.one, rfl, L, _, t.one, .ref x1, rfl, rfl, SqL.of hA1.at', ?_, .inl ⟨rfl, _, SqL.of g1⟩, .int t.other, rfl, .str (kindS t.foe), rfl, by show 2 ≤ sizeLine; decide, fun p np => ?_⟩
      · exact atI_of o1 (by rw [List.getElem?_map, e1']; rfl)
      have A2 := hA1.same (same_new (o := .tup [.int t.other, .str (kindS t.foe)]) np)
      refine ⟨x1, vs1, _, rfl, rfl, same_new np _ _ g1, small1000 (by omega), ?_⟩
      have A3 := A2.put e1' (same_new np _ _ g1) (q := p) (p := (t.other, t.foe)) ⟨p, rfl, upd_same⟩
      have s3 : Same H (upd (upd H1 p (.tup [.int t.other, .str (kindS t.foe)])) x1 (.lst (vs1 ++ [.ref p]))) := Same.mut (s1.trans (same_new np)) (hf _ (List.mem_of_getElem? e1'))
      generalize upd (upd H1 p (.tup [.int t.other, .str (kindS t.foe)])) x1 (.lst (vs1 ++ [.ref p])) = H3 at A3 s3
      -- the second
      obtain ⟨x2, e2, e2'⟩ := getI (xs := As) o3 (by omega)
      obtain ⟨vs2, g2, p2⟩ := A3.each _ _ e2'
      have l2 := Paired.length p2
      rw [List.length_append] at l2
      have l2' := nbs_len (ts.take i) (t.other.toNat : Int)
      rw [List.length_take] at l2'
      have l2'' : (if t.other.toNat = t.one.toNat then [(t.other, t.foe)] else []).length ≤ 1 := by split <;> simp
      refine ⟨.ref L, rfl, .int t.other, rfl, L, _, t.other, .ref x2, rfl, rfl, SqL.of A3.at', ?_, .inl ⟨rfl, _, SqL.of g2⟩, .int t.one, rfl, .str (kindS t.foe), rfl, by show 2 ≤ sizeLine; decide, fun p' np' => ?_⟩
      · exact atI_of o3 (by rw [List.getElem?_map, e2']; rfl)
      have A4 := A3.same (same_new (o := .tup [.int t.one, .str (kindS t.foe)]) np')
      refine ⟨x2, vs2, _, rfl, rfl, same_new np' _ _ g2, small1000 (by omega), ?_⟩
      have A5 := A4.put e2' (same_new np' _ _ g2) (q := p') (p := (t.one, t.foe)) ⟨p', rfl, upd_same⟩
      refine ⟨_, _, _, rfl, ?_, Same.mut (s3.trans (same_new np')) (hf _ (List.mem_of_getElem? e2'))⟩
      refine ⟨A5.at', A5.nd, fun j z ez => ?_, A5.out⟩
      obtain ⟨ws, w1, w2⟩ := A5.each j z ez
      refine ⟨ws, w1, ?_⟩
      rw [etk, nbs_snoc]
      have en : nb1 t j = (if j = t.one.toNat then [(t.other, t.foe)] else []) ++ (if j = t.other.toNat then [(t.one, t.foe)] else []) := by
        unfold nb1
        congr 1
        · by_cases h : j = t.one.toNat
          · rw [if_pos h, if_pos (by omega)]
          · rw [if_neg h, if_neg (by omega)]
        · by_cases h : j = t.other.toNat
          · rw [if_pos h, if_pos (by omega)]
          · rw [if_neg h, if_neg (by omega)]
      rw [en, ← List.append_assoc]
      exact w2
    · rintro σ' H1 ⟨y5, y6, y7, rfl, hA1, s1⟩
      rw [hlen, List.take_length] at hA1
      exact ⟨.ref L, rfl, q _ _ ⟨L, As, rfl, by rw [hl], hA1⟩ s1⟩
end
/-! ### the places that ties lead to -/
def sideI (b : Bool) : Int := if b then 1 else 0
def kvOf (ks : List Nb) : List (Key × V) := ks.map fun p => (Sum.inl p.1, V.int (sideI p.2))
theorem kvOf_none {z : Int} : ∀ {ks : List Nb}, z ∉ ks.map (·.1) → valV (kvOf ks) (Sum.inl z) = none
  | [], _ => rfl
  | p :: ks, h => by
    rw [List.map_cons, List.mem_cons, not_or] at h
    have e := kvOf_none (ks := ks) h.2
    have h1 := h.1
    unfold kvOf at e ⊢
    rw [List.map_cons, valV_neg (fun z => h1 (Sum.inl.inj z).symm)]
    exact e
theorem kvOf_some {z : Int} {b : Bool} : ∀ {ks : List Nb}, (ks.map (·.1)).Nodup → (z, b) ∈ ks → valV (kvOf ks) (Sum.inl z) = some (.int (sideI b))
  | p :: ks, nd, h => by
    rw [List.map_cons, List.nodup_cons] at nd
    rcases List.mem_cons.mp h with e | e
    · subst e
      unfold kvOf
      rw [List.map_cons, valV_pos rfl]
    · have q := kvOf_some (ks := ks) nd.2 e
      have ne : p.1 ≠ z := fun y => nd.1 (by rw [y]; exact List.mem_map.mpr ⟨_, e, rfl⟩)
      unfold kvOf at q ⊢
      rw [List.map_cons, valV_neg (fun y => ne (Sum.inl.inj y))]
      exact q
theorem kvOf_put {ks : List Nb} {z : Int} {b : Bool} (h : z ∉ ks.map (·.1)) : putK (kvOf ks) (Sum.inl z) (.int (sideI b)) = kvOf (ks ++ [(z, b)]) := by
  unfold putK
  rw [if_neg]
  · unfold kvOf
    rw [List.map_append]
    rfl
  · intro g
    rw [List.any_eq_true] at g
    obtain ⟨kv, h1, h2⟩ := g
    unfold kvOf at h1
    rw [List.mem_map] at h1
    obtain ⟨p, hp, rfl⟩ := h1
    exact h (List.mem_map.mpr ⟨p, hp, Sum.inl.inj (of_decide_eq_true h2)⟩)
theorem kvOf_len (ks : List Nb) : (kvOf ks).length = ks.length := by unfold kvOf; rw [List.length_map]
theorem pigeon : ∀ (n : Nat) (xs : List Int), xs.Nodup → (∀ x ∈ xs, 0 ≤ x ∧ x < n) → xs.length ≤ n
  | 0, xs, _, h => by
    cases xs with
    | nil => simp
    | cons x r =>
      have := h x (by simp)
      omega
  | n + 1, xs, nd, h => by
    have q := pigeon n (xs.erase (n : Int)) (nd.erase _) fun x hx => by
      have h1 := h x (List.mem_of_mem_erase hx)
      have h2 : x ≠ n := (List.Nodup.mem_erase_iff nd).mp hx |>.1
      omega
    have l := List.length_erase (a := (n : Int)) (l := xs)
    split at l
    · omega
    · omega
structure SF (ts : List Tie) (s : Int) (ks : List Nb) (wl ex : List Int) : Prop where
  nd : (ks.map (·.1)).Nodup
  rp : ∀ p ∈ ks, RP ts s p.1 p.2
  st : s ∈ ks.map (·.1)
  sub : ∀ x ∈ wl, x ∈ ks.map (·.1)
  le : wl.length ≤ ks.length
  cl : ∀ x ∈ ks.map (·.1), x ∉ wl → x ∉ ex → ∀ y k, Adj ts x y k → y ∈ ks.map (·.1)
theorem SF.keys {ts : List Tie} {s : Int} {ks : List Nb} {wl ex : List Int} (h : SF ts s ks wl ex) {x : Int} (hx : x ∈ ks.map (·.1)) : ∃ b, (x, b) ∈ ks ∧ RP ts s x b := by
  obtain ⟨p, hp, rfl⟩ := List.mem_map.mp hx
  exact ⟨p.2, hp, h.rp p hp⟩
theorem SF.few {ts : List Tie} {n : Nat} {s : Int} {ks : List Nb} {wl ex : List Int} (h : SF ts s ks wl ex) (ok : ∀ t ∈ ts, TieOk n t) (hs : 0 ≤ s ∧ s < n) : ks.length ≤ n := by
  have q := pigeon n (ks.map (·.1)) h.nd fun x hx => by
    obtain ⟨b, _, hb⟩ := h.keys hx
    exact Rch.rng ok hs ⟨b, hb⟩
  rw [List.length_map] at q
  exact q
theorem SF.all {ts : List Tie} {s : Int} {ks : List Nb} (h : SF ts s ks [] []) (z : Int) : z ∈ ks.map (·.1) ↔ Rch ts s z := by
  constructor
  · intro hz
    obtain ⟨b, _, hb⟩ := h.keys hz
    exact ⟨b, hb⟩
  · intro hz
    exact hz.ind (fun x => x ∈ ks.map (·.1)) h.st fun x y k hx ad => h.cl x hx (by simp) (by simp) y k ad
theorem SF.pop {ts : List Tie} {s p : Int} {ks : List Nb} {wl : List Int} (h : SF ts s ks (wl ++ [p]) []) : SF ts s ks wl [p] :=
  ⟨h.nd, h.rp, h.st, fun x hx => h.sub x (List.mem_append_left _ hx), by have := h.le; rw [List.length_append] at this; omega, fun x hx h1 h2 => h.cl x hx (fun z => by
    rcases List.mem_append.mp z with z | z
    · exact h1 z
    · exact h2 z) (by simp)⟩
theorem SF.push {ts : List Tie} {s p y : Int} {b f : Bool} {ks : List Nb} {wl : List Int} (h : SF ts s ks wl [p]) (hp : RP ts s p b) (ad : Adj ts p y f) (hy : y ∉ ks.map (·.1)) : SF ts s (ks ++ [(y, b ^^ f)]) (wl ++ [y]) [p] := by
  have em : (ks ++ [(y, b ^^ f)]).map (·.1) = ks.map (·.1) ++ [y] := by rw [List.map_append]; rfl
  refine ⟨?_, fun q hq => ?_, ?_, fun x hx => ?_, ?_, fun x hx h1 h2 z k hz => ?_⟩
  · rw [em, List.nodup_append]
    refine ⟨h.nd, by simp, fun x hx z hz e => ?_⟩
    rw [List.mem_singleton] at hz
    subst hz
    subst e
    exact hy hx
  · rcases List.mem_append.mp hq with q1 | q1
    · exact h.rp q q1
    · rw [List.mem_singleton] at q1
      subst q1
      exact hp.step ad
  · rw [em]
    exact List.mem_append_left _ h.st
  · rw [em]
    rcases List.mem_append.mp hx with q1 | q1
    · exact List.mem_append_left _ (h.sub x q1)
    · exact List.mem_append_right _ q1
  · rw [List.length_append, List.length_append]
    have := h.le
    simp
    omega
  · rw [em] at hx ⊢
    rcases List.mem_append.mp hx with q1 | q1
    · exact List.mem_append_left _ (h.cl x q1 (fun q2 => h1 (List.mem_append_left _ q2)) h2 z k hz)
    · exact absurd (List.mem_append_right _ q1) h1
theorem SF.done {ts : List Tie} {s p : Int} {ks : List Nb} {wl : List Int} (h : SF ts s ks wl [p]) (hp : ∀ q ∈ nbs ts p, q.1 ∈ ks.map (·.1)) : SF ts s ks wl [] :=
  ⟨h.nd, h.rp, h.st, h.sub, h.le, fun x hx h1 _ y k ad => by
    by_cases e : x = p
    · subst e
      exact hp (y, k) (mem_nbs.mpr ad)
    · exact h.cl x hx h1 (fun z => e (List.mem_singleton.mp z)) y k ad⟩
theorem side_xor (b f : Bool) : (if decide (V.str (kindS f) = V.str "friend") = true then sideI b else 1 - sideI b) = sideI (b ^^ f) := by
  cases f
  · cases b <;> rfl
  · cases b <;> rfl
theorem room1 {k : Nat} {A : PySem.Around} (r : Room k A) : A.units + 1 < cLine := by have := r.un; omega
structure SidesOf (ts : List Tie) (s : Int) (ks : List Nb) : Prop where
  nd : (ks.map (·.1)).Nodup
  rp : ∀ p ∈ ks, RP ts s p.1 p.2
  all : ∀ z, z ∈ ks.map (·.1) ↔ Rch ts s z
def spSidesFrom : Sp := fun vs H Q _ => ∃ (v : V) (n : Int) (s : Int) (ts : List Tie), vs = [.int s, v] ∧ AroundAt H v n ts ∧ WebOk n ts ∧ 0 ≤ s ∧ s < n ∧
  ∀ d ks H', H d = none → H' d = some (.dK (kvOf ks)) → Same H H' → SidesOf ts s ks → Q (.ref d) H'
section
variable {P : Program} {w : World} {K : PySem.W.Frag} {mg : Str → Option Value} {base : Heap}
theorem ok_sides_from {f : Addr} {fd : FuncData} (F : Fun K "sides_from" "sides_from" s_sides_from f fd) (M : Free mg) : FnOk P w K mg base CX0 1 f fd ["start", "around"] spSidesFrom := by
  refine F.ok sc_sides_from (fun vs H Q E h => ?_) (fun cdv A outer sh H vs Q E hr h => ?_)
  · obtain ⟨v, n, s, ts, rfl, _⟩ := h
    rfl
  · obtain ⟨v, n, s, ts, rfl, ⟨L, As, rfl, hl, hA⟩, ok, hs0, hs1, q⟩ := h
    have hu := room1 hr
    refine ⟨_, (pss_cons (ps_set (i := 2) sc_sides_from.nd rfl (.inl rfl) (pe_disp (pps_cons (pv 0) pe_int pps_nil) (by rfl) (by rfl) (fun z => by cases z) (by decide)))
      (pss_cons (ps_set (i := 3) sc_sides_from.nd rfl (.inl rfl) (pe_lst (pa_cons (pv 0) pa_nil)))
      (pss_cons (ps_while PassesOwn.never (pt_truth (pv 3) (by intro _; rfl))
        (pss_cons (ps_set (i := 4) sc_sides_from.nd rfl (.inl rfl) (pe_bm0 PySem.F.plainAttrs_list PySem.F.slot_list_pop PySem.F.type_list_pop mt_pop (pv 3)))
        (pss_one (ps_for PassesOwn.never rfl (pi_list (pe_ix ix_list (pv 1) (pv 4) (fun _ _ => rfl))) (pg_tup rfl (pgs_cons (pg_name (i := 5) sc_sides_from.nd rfl (.inl rfl)) (pgs_cons (pg_name (i := 6) sc_sides_from.nd rfl (.inl rfl)) pgs_nil)))
          (pss_one (ps_if (pt_cmp (pc_dnotin hu (pv 5) (pv 2)))
            (Evl.pss_cut (ps_dput hu (pv 2) (pv 5) (pe_ifExp (pt_cmpR op_eq (pv 6) pe_str (nomark _)) (pe_dget hu (pv 2) (pv 4) (fun _ _ => rfl)) (pe_op op_sub pe_int (pe_dget hu (pv 2) (pv 4) (fun _ _ => rfl)))) rfl)
            (pss_one (ps_expr (pe_bm PySem.F.plainAttrs_list PySem.F.slot_list_append PySem.F.type_list_append mt_append (pv 3) (pa_cons (pv 5) pa_nil)))))
            pss_nil))))))
      (pss_one (ps_ret (pv 2)))))), ?_⟩
    obtain ⟨k, rfl⟩ : ∃ k : Nat, n = k := ⟨n.toNat, by have := ok.lo; omega⟩
    have hk : k ≤ 40 := by have := ok.hi; omega
    have hts := ok.few
    -- sides
    refine fun d nd => ⟨.int s, rfl, upd_same, [(Sum.inl s, .int 0)], rfl, (by show 1 ≤ 15; decide), ?_⟩
    have eH : upd (upd H d (.dK [])) d (.dK (mergeK [] [(Sum.inl s, .int 0)])) = upd H d (.dK (kvOf [(s, false)])) := by
      funext b
      by_cases hb : b = d
      · subst hb
        rw [upd_same, upd_same]
        rfl
      · rw [upd_ne hb, upd_ne hb, upd_ne hb]
    rw [eH]
    -- waiting
    refine ⟨.int s, rfl, by show 1 ≤ sizeLine; decide, fun W nW => ?_⟩
    have hdW : W ≠ d := (ne_of_none upd_same nW).symm
    have nWH : H W = none := by rw [upd_ne hdW] at nW; exact nW
    refine ⟨fun m σ' H' => ∃ (y4 y5 y6 : Option V) (ks : List Nb) (wl : List Int), σ' = [some (.int s), some (.ref L), some (.ref d), some (.ref W), y4, y5, y6] ∧ H' d = some (.dK (kvOf ks)) ∧ H' W = some (.lst (wl.map V.int)) ∧ Same H H' ∧ SF ts s ks wl [] ∧ m = 2 * (k - ks.length) + wl.length, ⟨_, none, none, none, [(s, false)], [s], rfl, ?_, upd_same, Same.mut (same_new nd) nWH, ?_, rfl⟩, ?_⟩
    · rw [upd_ne (Ne.symm hdW)]
      exact upd_same
    · exact ⟨by simp, fun p hp => by rw [List.mem_singleton.mp hp]; exact .nil, by simp, fun x hx => hx, Nat.le_refl _, fun x hx h1 => absurd hx h1⟩
    · rintro m σ' H1 ⟨y4, y5, y6, ks, wl, rfl, hd, hW, s1, sf, hm⟩
      refine ⟨.ref W, rfl, _, .inl ⟨_, SqL.of hW, rfl⟩, ?_⟩
      refine ite2 (fun hb => ?_) (fun hb => ?_)
      · -- a place
        cases hwl : wl with
        | nil => rw [hwl] at hb; cases hb
        | cons z zs =>
        obtain ⟨ys, p, e⟩ : ∃ (ys : List Int) (p : Int), z :: zs = ys ++ [p] := ⟨(z :: zs).dropLast, (z :: zs).getLast (by simp), (List.dropLast_concat_getLast (by simp)).symm⟩
        rw [hwl, e] at hW sf hm
        have hpk := sf.sub p (by simp)
        obtain ⟨b, hb1, hb2⟩ := sf.keys hpk
        have hpr := Rch.rng ok.ok ⟨hs0, hs1⟩ ⟨b, hb2⟩
        have sp := sf.pop
        have e3 : ((ys ++ [p]).map V.int).dropLast = ys.map V.int := by simp
        refine ⟨fun σ' H' => ∃ m', m' < m ∧ ∃ (y4 y5 y6 : Option V) (ks : List Nb) (wl : List Int), σ' = [some (.int s), some (.ref L), some (.ref d), some (.ref W), y4, y5, y6] ∧ H' d = some (.dK (kvOf ks)) ∧ H' W = some (.lst (wl.map V.int)) ∧ Same H H' ∧ SF ts s ks wl [] ∧ m' = 2 * (k - ks.length) + wl.length, fun _ _ h => h, ?_⟩
        refine ⟨.ref W, rfl, .inl ⟨rfl, _, SqL.of hW⟩, W, _, .int p, rfl, rfl, hW, by simp, ?_⟩
        rw [e3]
        have hd2 : (upd H1 W (.lst (ys.map V.int))) d = some (.dK (kvOf ks)) := by rw [upd_ne (Ne.symm hdW)]; exact hd
        have hW2 : (upd H1 W (.lst (ys.map V.int))) W = some (.lst (ys.map V.int)) := upd_same
        have s2 : Same H (upd H1 W (.lst (ys.map V.int))) := Same.mut s1 nWH
        generalize upd H1 W (.lst (ys.map V.int)) = H2 at hd2 hW2 s2
        have A2 := hA.same s2
        obtain ⟨x, ex, ex'⟩ := getI (xs := As) hpr.1 (by omega)
        obtain ⟨us, g, pr⟩ := A2.each _ _ ex'
        have epk : ((p.toNat : Nat) : Int) = p := by omega
        rw [epk] at pr
        refine ⟨.ref L, rfl, .int p, rfl, L, _, p, .ref x, rfl, rfl, SqL.of A2.at', atI_of hpr.1 (by rw [List.getElem?_map, ex']; rfl), x, rfl, ⟨_, SqL.of g⟩, ?_⟩
        have gH : H x = some (.lst us) := by
          obtain ⟨us', g', _⟩ := hA.each _ _ ex'
          rw [s2 _ _ g'] at g
          cases g
          exact g'
        refine for_list (xs := us) (fun i σ' H' => ∃ (y5 y6 : Option V) (ks : List Nb) (wl : List Int), σ' = [some (.int s), some (.ref L), some (.ref d), some (.ref W), some (.int p), y5, y6] ∧ H' d = some (.dK (kvOf ks)) ∧ H' W = some (.lst (wl.map V.int)) ∧ Same H H' ∧ SF ts s ks wl [p] ∧ (p, b) ∈ ks ∧ (∀ q ∈ (nbs ts p).take i, q.1 ∈ ks.map (·.1)) ∧ 2 * (k - ks.length) + wl.length < m) ?_ ?_ ?_ ?_
        · exact ⟨y5, y6, ks, ys, rfl, hd2, hW2, s2, sp, hb1, fun q hq => by simp at hq, by rw [hm, List.length_append]; simp⟩
        · rintro i σ' H' _ ⟨y5, y6, ks, wl, rfl, _, _, s3, _⟩
          exact SqL.of (s3 _ _ gH)
        · rintro i u σ' H3 eu ⟨y5, y6, ks, wl, rfl, hd3, hW3, s3, sf3, hb3, hdn, hlt⟩
          have A3 := hA.same s3
          obtain ⟨us', g', pr'⟩ := A3.each _ _ ex'
          rw [s3 _ _ gH] at g'
          cases g'
          rw [epk] at pr'
          obtain ⟨⟨y, fo⟩, ey, c, rfl, hc⟩ := Paired.at pr' eu
          have ady := mem_nbs.mp (List.mem_of_getElem? ey)
          have few := sf3.few ok.ok ⟨hs0, hs1⟩
          have etk : (nbs ts p).take (i + 1) = (nbs ts p).take i ++ [(y, fo)] := by
            rw [List.take_add_one, ey]
            rfl
          refine ⟨c, _, rfl, SqT.of hc, rfl, _, _, rfl, _, _, rfl, rfl, ?_⟩
          refine ⟨.int y, rfl, .ref d, rfl, d, _, rfl, DGet.k (k := Sum.inl y) hd3, _, rfl, ?_⟩
          by_cases hy : y ∈ ks.map (·.1)
          · obtain ⟨yb, yb1, _⟩ := sf3.keys hy
            rw [kvOf_some sf3.nd yb1]
            refine ⟨_, _, ks, wl, rfl, hd3, hW3, s3, sf3, hb3, fun q hq => ?_, hlt⟩
            rw [etk] at hq
            rcases List.mem_append.mp hq with h | h
            · exact hdn q h
            · rw [List.mem_singleton.mp h]
              exact hy
          · rw [kvOf_none hy]
            have sfp := sf3.push (sf3.rp _ hb3) ady hy
            have few2 := sfp.few ok.ok ⟨hs0, hs1⟩
            have lks : (kvOf ks).length < sizeLine := by rw [kvOf_len]; exact small1000 (by omega)
            have vp := kvOf_some sf3.nd hb3
            have ep := kvOf_put (b := b ^^ fo) hy
            refine ⟨fun σ' H' => σ' = [some (.int s), some (.ref L), some (.ref d), some (.ref W), some (.int p), some (.int y), some (.str (kindS fo))] ∧ H' = upd H3 d (.dK (kvOf (ks ++ [(y, b ^^ fo)]))), ?_, ?_⟩
            · refine ⟨.str (kindS fo), rfl, rfl, _, rfl, ?_⟩
              rw [← ep]
              cases fo
              · refine ⟨.ref d, rfl, .int p, rfl, d, _, rfl, (by rw [← vp]; exact DGet.k (k := Sum.inl p) hd3), .ref d, rfl, .int y, rfl, d, _, rfl, DPut.k (k := Sum.inl y) hd3 lks, rfl, ?_⟩
                rw [Bool.xor_false]
              · refine ⟨.ref d, rfl, .int p, rfl, d, _, rfl, (by rw [← vp]; exact DGet.k (k := Sum.inl p) hd3), 1, sideI b, rfl, rfl, .ref d, rfl, .int y, rfl, d, _, rfl, DPut.k (k := Sum.inl y) hd3 lks, rfl, ?_⟩
                cases b <;> rfl
            · rintro σ' H4 ⟨rfl, rfl⟩
              have hW4 : (upd H3 d (.dK (kvOf (ks ++ [(y, b ^^ fo)])))) W = some (.lst (wl.map V.int)) := by rw [upd_ne hdW]; exact hW3
              have lw := sf3.le
              refine ⟨.ref W, rfl, .inl ⟨rfl, _, SqL.of hW4⟩, .int y, rfl, W, _, _, rfl, rfl, hW4, by rw [List.length_map]; exact small1000 (by omega), ?_⟩
              refine ⟨_, _, ks ++ [(y, b ^^ fo)], wl ++ [y], rfl, ?_, by rw [upd_same, List.map_append]; rfl, Same.mut (Same.mut s3 nd) nWH, sfp, List.mem_append_left _ hb3, fun q hq => ?_, ?_⟩
              · rw [upd_ne (Ne.symm hdW)]
                exact upd_same
              · rw [List.map_append]
                rw [etk] at hq
                rcases List.mem_append.mp hq with h | h
                · exact List.mem_append_left _ (hdn q h)
                · rw [List.mem_singleton.mp h]
                  exact List.mem_append_right _ (by simp)
              · rw [List.length_append] at few2 ⊢
                rw [List.length_append]
                simp only [List.length_cons, List.length_nil] at few2 ⊢
                omega
        · rintro σ' H3 ⟨y5, y6, ks, wl, rfl, hd3, hW3, s3, sf3, hb3, hdn, hlt⟩
          rw [Paired.length pr, List.take_length] at hdn
          exact ⟨_, hlt, _, _, _, ks, wl, rfl, hd3, hW3, s3, sf3.done hdn, rfl⟩
      · -- none is left
        have hwl : wl = [] := by
          cases wl with
          | nil => rfl
          | cons z zs => exact absurd rfl hb
        subst hwl
        exact ⟨.ref d, rfl, q d ks H1 nd hd s1 ⟨sf.nd, sf.rp, sf.all⟩⟩
end
theorem rgV_ints (n : Nat) : rgV 0 n = (rng n).map V.int := by
  unfold rgV rng
  rw [List.map_map, show ((n : Int) - 0).toNat = n from by omega]
  refine List.map_congr_left fun i _ => ?_
  show V.int (0 + (i : Int)) = V.int i
  rw [Int.zero_add]
/-! ### the law: the least place that each comes to -/
def lf (f : Int → Int) (n : Nat) : List V := (rng n).map fun i => V.int (f i)
theorem lf_len (f : Int → Int) (n : Nat) : (lf f n).length = n := by unfold lf; rw [List.length_map, rng_length]
theorem lf_get? (f : Int → Int) {n j : Nat} (h : j < n) : (lf f n)[j]? = some (.int (f j)) := by
  unfold lf rng
  rw [List.map_map, List.getElem?_map, List.getElem?_range h]
  rfl
theorem lf_at (f : Int → Int) {n : Nat} {i : Int} (h0 : 0 ≤ i) (h1 : i < n) : atI (lf f n) i = some (.int (f i)) := by
  have e : ((i.toNat : Nat) : Int) = i := by omega
  refine atI_of h0 ?_
  rw [lf_get? f (by omega), e]
theorem lf_set (f : Int → Int) {n : Nat} {i y : Int} (h0 : 0 ≤ i) (h1 : i < n) : (lf f n).set i.toNat (.int y) = lf (fun x => if x = i then y else f x) n := by
  refine List.ext_getElem? fun j => ?_
  rw [List.getElem?_set]
  by_cases hj : j < n
  · by_cases e : i.toNat = j
    · rw [if_pos e, if_pos (by rw [lf_len]; omega), lf_get? _ hj, if_pos (by omega)]
    · rw [if_neg e, lf_get? _ hj, lf_get? _ hj, if_neg (by omega)]
  · have e : i.toNat ≠ j := by omega
    rw [if_neg e, List.getElem?_eq_none (by rw [lf_len]; omega), List.getElem?_eq_none (by rw [lf_len]; omega)]
theorem ixN_of {n : Nat} {i : Int} (h0 : 0 ≤ i) (h1 : i < n) : ixN n i = some i.toNat := by
  unfold ixN
  rw [if_pos (by omega), if_pos (by omega)]
/-! ### the parts -/
theorem mem_putK {k z : Key} {v : V} {kvs : List (Key × V)} : z ∈ (putK kvs k v).map (·.1) ↔ z ∈ kvs.map (·.1) ∨ z = k := by
  unfold putK
  split
  · rename_i h
    rw [List.any_eq_true] at h
    obtain ⟨kv, h1, h2⟩ := h
    have h3 := of_decide_eq_true h2
    rw [List.map_map]
    have e : (Prod.fst ∘ fun kv : Key × V => if kv.1 = k then (kv.1, v) else kv) = Prod.fst := by
      funext p
      show (if p.1 = k then (p.1, v) else p).1 = p.1
      split <;> rfl
    rw [show ((fun x : Key × V => x.1) ∘ fun kv : Key × V => if kv.1 = k then (kv.1, v) else kv) = Prod.fst from e]
    constructor
    · exact .inl
    · rintro (h | h)
      · exact h
      · rw [h, ← h3]
        exact List.mem_map.mpr ⟨kv, h1, rfl⟩
  · rw [List.map_append, List.mem_append]
    simp
theorem mem_mergeK {z : Key} : ∀ {more kvs : List (Key × V)}, z ∈ (mergeK kvs more).map (·.1) ↔ z ∈ kvs.map (·.1) ∨ z ∈ more.map (·.1)
  | [], kvs => by
    show z ∈ kvs.map (·.1) ↔ _
    simp
  | p :: r, kvs => by
    have q := mem_mergeK (z := z) (more := r) (kvs := putK kvs p.1 p.2)
    rw [mem_putK] at q
    show z ∈ (mergeK (putK kvs p.1 p.2) r).map (·.1) ↔ _
    rw [q, List.map_cons, List.mem_cons, or_assoc]
theorem valV_isSome {k : Key} : ∀ {kvs : List (Key × V)}, (valV kvs k).isSome = true ↔ k ∈ kvs.map (·.1)
  | [] => by simp [valV_nil]
  | p :: r => by
    by_cases h : p.1 = k
    · rw [valV_pos h, List.map_cons, List.mem_cons]
      simp [h]
    · rw [valV_neg h, List.map_cons, List.mem_cons, valV_isSome]
      constructor
      · exact .inr
      · rintro (e | e)
        · exact absurd e.symm h
        · exact e
theorem kvOf_keys (ks : List Nb) : (kvOf ks).map (·.1) = (ks.map (·.1)).map Sum.inl := by
  unfold kvOf
  rw [List.map_map, List.map_map]
  rfl
theorem lead_iff {ts : List Tie} {n : Nat} (ok : ∀ t ∈ ts, TieOk n t) {i : Int} (h0 : 0 ≤ i ∧ i < n) : leader ts i ↔ ¬ ∃ x, 0 ≤ x ∧ x < i ∧ Rch ts x i := by
  constructor
  · rintro h ⟨x, h1, h2, h3⟩
    have := h x h3.symm
    omega
  · intro h q hq
    rcases Int.lt_or_le q i with l | l
    · exact absurd ⟨q, (hq.rng ok h0).1, l, hq.symm⟩ h
    · exact l
def PartsAt (H : Hp) (v : V) (ps : List (List Int)) : Prop := ∃ a bs, v = .ref a ∧ H a = some (.tup bs) ∧ Paired (IntsV H) bs ps
theorem parts_tk {H H' : Hp} (k : Tk H H') {bs : List V} {ps : List (List Int)} (h : Paired (IntsV H) bs ps) : Paired (IntsV H') bs ps := Paired.mono (fun _ _ x => x.tk k) h
theorem partsTo_len (ts : List Tie) (n i : Nat) : (partsTo ts n i).length ≤ i := by
  induction i with
  | zero => simp [partsTo, rng]
  | succ i ih =>
    rw [partsTo_succ, List.length_append]
    split
    · simp
      omega
    · simp
      omega
def spPartsOf : Sp := fun vs H Q _ => ∃ (v : V) (n : Nat) (ts : List Tie), vs = [v] ∧ WebAt H v n ts ∧ WebOk n ts ∧
  ∀ v' H', Same H H' → PartsAt H' v' (partsTo ts n n) → Q v' H'
section
variable {P : Program} {w : World} {K : PySem.W.Frag} {mg : Str → Option Value} {base : Heap}
theorem ok_parts_of {f : Addr} {fd : FuncData} (F : Fun K "parts_of" "parts_of" s_parts_of f fd) (M : Free mg) (ms : mg "sorted" = none) (D1 : Df P w K mg base 1 "neighbours" ["web"] spNeighbours) (D2 : Df P w K mg base 1 "sides_from" ["start", "around"] spSidesFrom) : FnOk P w K mg base CX0 2 f fd ["web"] spPartsOf := by
  obtain ⟨f1, fd1, G1, g1, k1, b1⟩ := D1
  obtain ⟨f2, fd2, G2, g2, k2, b2⟩ := D2
  refine F.ok sc_parts_of (fun vs H Q E h => ?_) (fun cdv A outer sh H vs Q E hr h => ?_)
  · obtain ⟨v, n, ts, rfl, _⟩ := h
    rfl
  · obtain ⟨v, n, ts, rfl, hw, ok, q⟩ := h
    have hu := room1 hr
    have hk : n ≤ 40 := by have := ok.hi; omega
    refine ⟨_, (pss_cons (ps_set (i := 1) sc_parts_of.nd rfl (.inl rfl) (pe_call G1 hr (by rfl) g1 k1 b1 .nil pass0 (pa_cons (pv 0) pa_nil)))
      (pss_cons (ps_set (i := 2) sc_parts_of.nd rfl (.inl rfl) (pe_lst pa_nil))
      (pss_cons (ps_set (i := 3) sc_parts_of.nd rfl (.inl rfl) pe_dnewK)
      (pss_cons (ps_for PassesOwn.never rfl (pi_range1 (by rfl) M.range (pa_cons (pe_ix ix_tup (pv 0) pe_int (fun _ _ => rfl)) pa_nil)) (pg_name (i := 4) sc_parts_of.nd rfl (.inl rfl))
        (pss_one (ps_if (pt_cmp (pc_dnotin hu (pv 4) (pv 3)))
          (pss_cons (ps_set (i := 5) sc_parts_of.nd rfl (.inl rfl) (pe_call G2 hr (by rfl) g2 k2 b2 .nil pass0 (pa_cons (pv 4) (pa_cons (pv 1) pa_nil))))
          (pss_cons (ps_expr (pe_bm PySem.F.plainAttrs_dict PySem.F.slot_dict_update PySem.F.type_dict_update mt_update (pv 3) (pa_cons (pv 5) pa_nil)))
          (pss_one (ps_expr (pe_bm PySem.F.plainAttrs_list PySem.F.slot_list_append PySem.F.type_list_append mt_append (pv 2) (pa_cons (pe_callTy call_tuple_ofZ (by rfl) M.tuple (by decide +kernel) (pa_cons (pe_callB (call_sortedDI rfl) (by rfl) ms (by decide +kernel) (pa_cons (pv 5) pa_nil)) pa_nil)) pa_nil))))))
          pss_nil)))
      (pss_one (ps_ret (pe_callTy call_tuple_of (by rfl) M.tuple (by decide +kernel) (pa_cons (pv 2) pa_nil)))))))), ?_⟩
    -- around
    refine ⟨v, rfl, v, n, ts, rfl, hw, ok, fun u H1 hA s1 => ?_⟩
    -- parts, placed
    refine ⟨Nat.zero_le _, fun L nL pD nD => ?_⟩
    have hLD : pD ≠ L := (ne_of_none upd_same nD).symm
    have nDH1 : H1 pD = none := by rw [upd_ne hLD] at nD; exact nD
    have nLH : H L = none := s1.free nL
    have nDH : H pD = none := s1.free nDH1
    have sA : Same H1 (upd (upd H1 L (.lst [])) pD (.dK [])) := (same_new nL).trans (same_new nD)
    obtain ⟨a, b, vs, rfl, ha, hb, hp⟩ := hw
    refine ⟨.ref a, rfl, a, _, 0, .int n, rfl, rfl, SqT.of (sA _ _ (s1 _ _ ha)), rfl, n, rfl, by omega, by omega, ?_⟩
    rw [Int.toNat_natCast]
    refine for_range (lo := 0) (n := n) (fun i σ' H' => ∃ (y4 y5 : Option V) (kvs : List (Key × V)) (bs : List V), σ' = [some (.ref a), some u, some (.ref L), some (.ref pD), y4, y5] ∧ H' L = some (.lst bs) ∧ Paired (IntsV H') bs (partsTo ts n i) ∧ H' pD = some (.dK kvs) ∧ kvs.length ≤ 40 * i ∧
      (∀ z, z ∈ kvs.map (·.1) ↔ ∃ y, z = Sum.inl y ∧ ∃ x, 0 ≤ x ∧ x < (i : Int) ∧ Rch ts x y) ∧ Same H1 H') ?_ ?_ ?_
    · refine ⟨none, none, [], [], rfl, by rw [upd_ne (Ne.symm hLD)]; exact upd_same, ?_, upd_same, by simp, fun z => ?_, sA⟩
      · have e0 : partsTo ts n 0 = [] := by simp [partsTo, rng]
        rw [e0]
        exact .nil
      · constructor
        · intro h
          simp at h
        · rintro ⟨y, _, x, h1, h2, _⟩
          omega
    · rintro i σ' H2 hi ⟨y4, y5, kvs, bs, rfl, hL, hP, hD, hlen, hkeys, s2⟩
      rw [show (0 : Int) + (i : Nat) = i from by omega]
      have hir : 0 ≤ (i : Int) ∧ (i : Int) < n := by omega
      have lbs : bs.length ≤ i := by rw [Paired.length hP]; exact partsTo_len ts n i
      refine ⟨.int i, rfl, .ref pD, rfl, pD, _, rfl, DGet.k (k := Sum.inl (i : Int)) hD, _, rfl, ?_⟩
      have nx : ∀ y : Int, (∃ x, 0 ≤ x ∧ x < ((i + 1 : Nat) : Int) ∧ Rch ts x y) ↔ (∃ x, 0 ≤ x ∧ x < (i : Int) ∧ Rch ts x y) ∨ Rch ts i y := fun y => by
        constructor
        · rintro ⟨x, h1, h2, h3⟩
          by_cases e : x = i
          · subst e
            exact .inr h3
          · exact .inl ⟨x, h1, by omega, h3⟩
        · rintro (⟨x, h1, h2, h3⟩ | h)
          · exact ⟨x, h1, by omega, h3⟩
          · exact ⟨i, by omega, by omega, h⟩
      by_cases hin : (valV kvs (Sum.inl (i : Int))).isSome = true
      · rw [hin]
        obtain ⟨y, e, x, h1, h2, h3⟩ := (hkeys _).mp (valV_isSome.mp hin)
        cases e
        have nl : ¬ leader ts (i : Int) := fun z => (lead_iff ok.ok hir).mp z ⟨x, h1, h2, h3⟩
        refine ⟨_, _, kvs, bs, rfl, hL, ?_, hD, by omega, fun z => ?_, s2⟩
        · rw [partsTo_succ, if_neg nl, List.append_nil]
          exact hP
        · rw [hkeys]
          constructor
          · rintro ⟨y, e, h⟩
            exact ⟨y, e, (nx y).mpr (.inl h)⟩
          · rintro ⟨y, e, h⟩
            refine ⟨y, e, ?_⟩
            rcases (nx y).mp h with h | h
            · exact h
            · exact ⟨x, h1, h2, h3.trans h⟩
      · rw [Bool.not_eq_true] at hin
        rw [hin]
        have ld : leader ts (i : Int) := (lead_iff ok.ok hir).mpr fun ⟨x, h1, h2, h3⟩ => by
          have := valV_isSome.mpr ((hkeys (Sum.inl (i : Int))).mpr ⟨_, rfl, x, h1, h2, h3⟩)
          rw [hin] at this
          cases this
        refine ⟨.int i, rfl, u, rfl, u, n, i, ts, rfl, hA.same s2, ok, hir.1, hir.2, fun d ks H3 nd hd s3 so => ?_⟩
        have lks : ks.length ≤ n := by
          have q := pigeon n (ks.map (·.1)) so.nd fun x hx => Rch.rng ok.ok hir ((so.all x).mp hx)
          rw [List.length_map] at q
          exact q
        have hpd : pD ≠ d := ne_of_none hD nd
        have hLd : L ≠ d := ne_of_none hL nd
        -- update
        refine ⟨.ref pD, rfl, .inr (.inr (.inl ⟨rfl, .inl ⟨_, s3 _ _ hD⟩⟩)), .ref d, rfl, pD, d, kvs, kvOf ks, rfl, rfl, s3 _ _ hD, hd, hpd, (by rw [kvOf_len, sizeLine_eq]; omega), ?_⟩
        have hL4 : (upd H3 pD (.dK (mergeK kvs (kvOf ks)))) L = some (.lst bs) := by rw [upd_ne (Ne.symm hLD)]; exact s3 _ _ hL
        have hd4 : (upd H3 pD (.dK (mergeK kvs (kvOf ks)))) d = some (.dK (kvOf ks)) := by rw [upd_ne (Ne.symm hpd)]; exact hd
        have hD4 : (upd H3 pD (.dK (mergeK kvs (kvOf ks)))) pD = some (.dK (mergeK kvs (kvOf ks))) := upd_same
        have s4 : Same H1 (upd H3 pD (.dK (mergeK kvs (kvOf ks)))) := Same.mut (s2.trans s3) nDH1
        have t4 : Tk H2 (upd H3 pD (.dK (mergeK kvs (kvOf ks)))) := (Same.tk s3).trans (tk_dk (s3 _ _ hD))
        generalize upd H3 pD (.dK (mergeK kvs (kvOf ks))) = H4 at hL4 hd4 hD4 s4 t4
        -- append
        refine ⟨.ref L, rfl, .inl ⟨rfl, _, SqL.of hL4⟩, .ref d, rfl, d, _, ks.map (·.1), rfl, Rd.of hd4, kvOf_keys ks, by rw [List.length_map]; omega, fun ys p hperm hle np => ?_⟩
        have ey : ys = partOf ts n i := by
          refine rising_ext ?_ (part_rising ts n i) fun z => ?_
          · have nd2 : ys.Nodup := hperm.nodup_iff.mpr so.nd
            exact (hle.and nd2).imp fun {x y} h => by omega
          · rw [hperm.mem_iff, so.all, mem_part]
            exact ⟨fun h => ⟨h.rng ok.ok hir, h⟩, fun h => h.2⟩
        refine ⟨p, _, rfl, SqL.of upd_same, fun t o od nt => ?_⟩
        have s6 := (same_new (o := .lst (ys.map V.int)) np).trans (same_new (o := .frz o (.tup (ys.map V.int))) nt)
        have hL6 := s6 _ _ hL4
        refine ⟨L, bs, _, rfl, rfl, hL6, small1000 (by omega), ?_⟩
        have t6 : Tk H2 (upd (upd (upd H4 p (.lst (ys.map V.int))) t (.frz o (.tup (ys.map V.int)))) L (.lst (bs ++ [.ref t]))) := (t4.trans (Same.tk s6)).trans (tk_lst hL6)
        refine ⟨_, _, mergeK kvs (kvOf ks), bs ++ [.ref t], rfl, upd_same, ?_, ?_, ?_, fun z => ?_, Same.mut (s4.trans s6) nL⟩
        · rw [partsTo_succ, if_pos ld]
          refine Paired.snoc (parts_tk t6 hP) ⟨t, rfl, o, od, ?_⟩
          rw [← ey]
          exact (tk_lst hL6).frz _ _ _ upd_same
        · rw [upd_ne hLD]
          exact s6 _ _ hD4
        · have := length_mergeK (kvOf ks) kvs
          rw [kvOf_len] at this
          omega
        · rw [mem_mergeK, hkeys, kvOf_keys]
          constructor
          · rintro (⟨y, e, h⟩ | h)
            · exact ⟨y, e, (nx y).mpr (.inl h)⟩
            · obtain ⟨y, hy, rfl⟩ := List.mem_map.mp h
              exact ⟨y, rfl, (nx y).mpr (.inr ((so.all y).mp hy))⟩
          · rintro ⟨y, rfl, h⟩
            rcases (nx y).mp h with h | h
            · exact .inl ⟨y, rfl, h⟩
            · exact .inr (List.mem_map.mpr ⟨y, (so.all y).mpr h, rfl⟩)
    · rintro σ' H2 ⟨y4, y5, kvs, bs, rfl, hL, hP, hD, hlen, hkeys, s2⟩
      refine ⟨.ref L, rfl, L, bs, rfl, .inl ⟨SqL.of hL, fun t nt => ?_⟩⟩
      exact q _ _ ((s1.trans s2).trans (same_new nt)) ⟨t, bs, rfl, upd_same, parts_tk (Same.tk (same_new nt)) hP⟩
end
/-! ### len(set(t)) of a tuple of ints -/
theorem sub_len : ∀ {ks ns : List Int}, ks.Nodup → (∀ x ∈ ks, x ∈ ns) → ks.length ≤ ns.length
  | [], _, _, _ => Nat.zero_le _
  | k :: ks, ns, nd, h => by
    rw [List.nodup_cons] at nd
    have hk := h k (by simp)
    have q := sub_len (ks := ks) (ns := ns.erase k) nd.2 fun x hx => (List.mem_erase_of_ne (fun z => nd.1 (by rw [← z]; exact hx))).mpr (h x (List.mem_cons_of_mem _ hx))
    rw [List.length_erase_of_mem hk] at q
    have : 0 < ns.length := List.length_pos_of_mem hk
    rw [List.length_cons]
    omega
theorem twice : ∀ {ns : List Int}, ¬ ns.Nodup → ∃ x, x ∈ ns ∧ x ∈ ns.erase x
  | [], h => absurd List.nodup_nil h
  | y :: l, h => by
    by_cases hy : y ∈ l
    · exact ⟨y, by simp, by rw [List.erase_cons_head]; exact hy⟩
    · have hl : ¬ l.Nodup := fun z => h (List.nodup_cons.mpr ⟨hy, z⟩)
      obtain ⟨x, h1, h2⟩ := twice hl
      refine ⟨x, List.mem_cons_of_mem _ h1, ?_⟩
      have ne : y ≠ x := fun z => hy (by rw [z]; exact h1)
      rw [List.erase_cons_tail (by simpa using ne)]
      exact List.mem_cons_of_mem _ h2
theorem many_iff {ks ns : List Int} (nd : ks.Nodup) (h : ∀ x, x ∈ ns ↔ x ∈ ks) : ks.length = ns.length ↔ ns.Nodup := by
  constructor
  · intro e
    by_cases hn : ns.Nodup
    · exact hn
    · obtain ⟨x, h1, h2⟩ := twice hn
      have q := sub_len (ns := ns.erase x) nd fun y hy => by
        by_cases e2 : y = x
        · rw [e2]
          exact h2
        · exact (List.mem_erase_of_ne e2).mpr ((h y).mpr hy)
      rw [List.length_erase_of_mem h1] at q
      have : 0 < ns.length := List.length_pos_of_mem h1
      omega
  · intro hn
    have q1 := sub_len nd fun y hy => (h y).mpr hy
    have q2 := sub_len hn fun y hy => (h y).mp hy
    omega
def tLenSet (K : PySem.W.Frag) (ta : TE) : TE := fun σ H Q => ta σ H fun x H1 => ∃ (l : Addr) (ns : List Int), x = .ref l ∧ SqT K H1 l (ns.map V.int) ∧ ns.length ≤ 4000 ∧ ∀ c : Nat, (c = ns.length ↔ ns.Nodup) → Q (.int c) H1
theorem pe_lenSetT {X : Cx} {a : Expr} {ta : TE} {p p2 q pos : Pos} (hg : Gl X "len") (hm : X.mg "len" = none) (hg2 : Gl X "set") (hm2 : X.mg "set" = none) (ha : PE X a ta) (hc : X.calm = true := by rfl)
    (na : starEach [a] X.env = (false, eval a X.env) :: starEach [] X.env := by rfl) : PE X (.Call (.Name "len" p) [.Call (.Name "set" p2) [a] [] q] [] pos) (tLenSet X.K ta) := by
  refine ⟨fun pins s σ H Q I want => Call_ (ld_blt I hg hm PySem.boot_len (PyProof.Rows.callWith_builtin1 (PyProof.Rows.args_cons (Call_ (ld_blt I hg2 hm2 PyProof.Rows.boot_set (PyProof.Rows.callWith_type1 (PyProof.Rows.args_cons (thn (ha.run pins s σ H _ I want) fun v s1 got => PyProof.Rows.args_nil ?_) na) na rfl))) rfl) rfl rfl))⟩
  obtain ⟨x, H1, J, r1, l, ns, ex, hq, hl, q1⟩ := got
  subst ex
  obtain rfl : v = Value.ref l := r1
  obtain ⟨its, rel, tup, _⟩ := J.tuple hq
  refine call_set_tupI ns (J.ok.hd hc) tup (by simpa using rel.ints) (by unfold scanBound; omega) fun h' tk c hS hcl kp => PyProof.Rows.args_nil ?_
  obtain ⟨o, es, ep, t, ho, hex, hd, _, nd, mem, _, hf, hn, _⟩ := hS
  have J2 : Inv X pins σ H1 { s1 with heap := h', toks := tk } := J.kept kp
  have len : (es.toList.map keyOf).length = c := by rw [List.length_map, Array.length_toList, hn]
  have key : c = ns.length ↔ ns.Nodup := by
    rw [← len]
    refine many_iff nd fun y => ?_
    rw [← mem y, decide_eq_true_iff]
  exact call_len_set ho hex hd hf (by omega) ⟨.int c, H1, J2.tok _, ⟨_, by rw [hn]⟩, q1 c key⟩
/-! ### sorted(set(t)) of a tuple of ints, any number of them -/
section
open L2
variable {P : Program} {w : World} {A : PySem.Around} {E : Value → Shared → Prop} {s : Shared} {a : Addr}
theorem sorted_setN {S : Int → Bool} {n : Nat} {Q : Value → Shared → Prop} (R : SetR w s.heap a S n) (hh : A.handled = none) (h4 : n ≤ 4000)
    (hQ : ∀ s' p (out : Array Value) (c : Nat) (ns : List Int), (∀ b o, s.heap.get? b = some o → s'.heap.get? b = some o) → s'.gens = s.gens → s'.os = s.os → s.heap.objs.size ≤ p →
      s'.heap.get? p = some (seqObj "list" out c) → IntsAre out.toList ns → ns.Pairwise (· < ·) → (∀ k, k ∈ ns ↔ S k = true) → ns.length = n → Q (.ref p) s') :
    wpAny (model P w) A (call (.builtin "sorted") [.ref a]) Q E s := by
  obtain ⟨o, es, ep, t, ho, hex, hd, g, nd, hm, hb, hf, hn, hr, hl⟩ := R
  refine Calls.call_function_entry kind_sorted plain_sorted entry_sorted (args_sorted1 _) ?_
  unfold Builtin.«sorted»
  refine wpAny_bind (m := checkCount "sorted" 1 1 _) (wpAny_pure ?_)
  refine wpAny_bind (collect_set (A := A.in1) hh ⟨o, ho, hex.1, hd⟩ hf hb hr hl fun s1 vs k1 hz g1 o1 pm => ?_)
  have hvl : vs.length = n := by rw [pm.length_eq, List.length_map, Array.length_toList]; exact hn
  have hI : IntsAre vs (vs.map Builtin.Re.reRawOf) := ints_of vs fun v hv => by
    obtain ⟨e, he, q⟩ := List.mem_map.mp (pm.mem_iff.mp hv)
    obtain ⟨k, tk, h1, _⟩ := g e he
    exact ⟨k, tk, by rw [← q]; exact h1⟩
  have pk : (vs.map Builtin.Re.reRawOf).Perm (es.toList.map keyOf) := by
    have q := pm.map Builtin.Re.reRawOf
    rw [List.map_map] at q
    exact q
  refine wpAny_bind (wpAny_newList ?_ (by rw [hvl, sizeLine_eq]; omega))
  have hoL : (s1.heap.push (seqObj "list" vs.toArray 0)).get? s1.heap.objs.size = some (seqObj "list" vs.toArray 0) := Heap.get?_push_size _ rfl
  refine wpAny_bind (wpAny_holding (wpAny_call_entry slot_list_sort ⟨_, hoL, rfl⟩ entry_list_sort (SrtO.list_sort_ord SrtO.swo_int hoL (by rw [hvl, sizeLine_eq]; omega) (fun h2 => SrtO.ints_sortable hI h2) fun out h1 h2 => ⟨_, rfl, ?_⟩) (args_list_sort _)))
  obtain ⟨a1, a2, a3⟩ := SrtO.ints_out hI h1 h2
  obtain ⟨c, hc⟩ := sortedHeap_at (vs := vs) (out := out.toArray) hoL
  have pn : (out.map SrtO.iv).Perm (es.toList.map keyOf) := a2.trans pk
  refine wpAny_pure ⟨_, rfl, hQ _ s1.heap.objs.size out.toArray c (out.map SrtO.iv) (fun b u e => ?_) g1 o1 hz hc (by simpa using a1) (lt_of_le_nodup _ a3 (pn.nodup_iff.mpr nd)) (fun k => by rw [pn.mem_iff, ← hm k]) ?_⟩
  · have q := k1 b u e
    have hlt := Heap.lt_size q
    show (sortedHeap (s1.heap.push (seqObj "list" vs.toArray 0)) s1.heap.objs.size vs out.toArray).get? b = some u
    rw [sortedHeap_old (Nat.ne_of_lt hlt) (by rw [size_push']; exact Nat.lt_succ_of_lt hlt)]
    exact Heap.get?_push_of_some _ q
  · rw [pn.length_eq, List.length_map, Array.length_toList]; exact hn
end
def tSortSet (K : PySem.W.Frag) (ta : TE) : TE := fun σ H Q => ta σ H fun x H1 => ∃ (l : Addr) (ns : List Int), x = .ref l ∧ SqT K H1 l (ns.map V.int) ∧ ns.length ≤ 4000 ∧ ∀ (ks : List Int) (p : Addr), ks.Pairwise (· < ·) → (∀ k, k ∈ ks ↔ k ∈ ns) → H1 p = none → Q (.ref p) (upd H1 p (.lst (ks.map V.int)))
theorem pe_sortSetT {X : Cx} {a : Expr} {ta : TE} {p p2 q pos : Pos} (hg : Gl X "sorted") (hm : X.mg "sorted" = none) (hg2 : Gl X "set") (hm2 : X.mg "set" = none) (ha : PE X a ta) (hc : X.calm = true := by rfl)
    (na : starEach [a] X.env = (false, eval a X.env) :: starEach [] X.env := by rfl) : PE X (.Call (.Name "sorted" p) [.Call (.Name "set" p2) [a] [] q] [] pos) (tSortSet X.K ta) := by
  refine ⟨fun pins s σ H Q I want => Call_ (ld_blt I hg hm (show bootBuiltins "sorted" = some (.builtin "sorted") by decide +kernel) (PyProof.Rows.callWith_builtin1 (PyProof.Rows.args_cons (Call_ (ld_blt I hg2 hm2 PyProof.Rows.boot_set (PyProof.Rows.callWith_type1 (PyProof.Rows.args_cons (thn (ha.run pins s σ H _ I want) fun v s1 got => PyProof.Rows.args_nil ?_) na) na rfl))) rfl) rfl rfl))⟩
  obtain ⟨x, H1, J, r1, l, ns, ex, hq, hl, q1⟩ := got
  subst ex
  obtain rfl : v = Value.ref l := r1
  obtain ⟨its, rel, tup, _⟩ := J.tuple hq
  refine call_set_tupI ns (J.ok.hd hc) tup (by simpa using rel.ints) (by unfold scanBound; omega) fun h' tk c hS hcl kp => PyProof.Rows.args_nil ?_
  have J2 : Inv X pins σ H1 { s1 with heap := h', toks := tk } := J.kept kp
  have cl : c ≤ 4000 := by
    obtain ⟨o, es, ep, t, ho, hex, hd, _, nd, mem, _, hf, hn, _⟩ := hS
    have len : (es.toList.map keyOf).length = c := by rw [List.length_map, Array.length_toList, hn]
    have := sub_len nd (ns := ns) fun y hy => by
      have := (mem y).mpr hy
      exact of_decide_eq_true this
    omega
  obtain ⟨s2, es2⟩ : ∃ s2 : Shared, s2 = { s1 with heap := h', toks := tk } := ⟨_, rfl⟩
  rw [← es2] at J2
  show wpAny _ _ _ _ _ { s1 with heap := h', toks := tk }
  rw [← es2]
  refine sorted_setN (by rw [es2]; exact hS) (J2.ok.hd hc) cl fun s' p out c' ks k g o hp hg' hi hs hm' hl' => ?_
  have hlen : (ks.map V.int).length ≤ sizeLine := by rw [List.length_map, hl', sizeLine_eq]; omega
  have hn : H1 p = none := J2.hok.fresh hp
  have J3 : Inv X pins σ (upd H1 p (.lst (ks.map V.int))) { s2 with heap := s'.heap, gens := s'.gens, drawn := s'.drawn, toks := s'.toks } :=
    J2.call (ch := []) (Un.laid k hp hn) (J2.hok.laid k hp ⟨hlen, out.toList, c', vals_of_ints hi, hg'⟩) (by rw [g]; exact J2.bare) (fun _ z => nomatch z)
  have e : s' = { s2 with heap := s'.heap, gens := s'.gens, drawn := s'.drawn, toks := s'.toks } := by
    cases s'
    cases s2
    cases o
    rfl
  rw [e]
  exact ⟨.ref p, _, J3, rfl, q1 ks p hs (fun z => by rw [hm' z, decide_eq_true_iff]) hn⟩
/-- a list or a tuple, walked -/
def iSeq (K : PySem.W.Frag) (tl : TE) : TI := fun σ H R => tl σ H fun x H1 => ∃ a, x = .ref a ∧ (((∃ xs, SqL K H1 a xs) ∧ R (Itl K a) H1) ∨ ((∃ xs, SqT K H1 a xs) ∧ R (Itt K a) H1))
theorem pi_seq {X : Cx} {tg l : Expr} {tl : TE} (hl : PE X l tl) : PI X tg l (iSeq X.K tl) := by
  refine ⟨fun pins s σ H R I h => ?_⟩
  refine thn (hl.run pins s σ H _ I h) fun v s1 ⟨x, H1, I1, r1, q1⟩ => ?_
  obtain ⟨a, e, q1⟩ := q1
  subst e
  cases r1
  rcases q1 with ⟨⟨xs, hq⟩, q⟩ | ⟨⟨xs, hq⟩, q⟩
  · obtain ⟨its, rv, p, hz⟩ := I1.list hq
    refine wpAny_pyIter_list p.isList ?_
    refine ⟨s1.heap.objs.size, [s1.heap.objs.size], _, _, H1, rfl, I1.kept (t' := s1.toks) fun b o e => Heap.get?_push_of_some _ e, turn_list a _, ⟨_, Heap.get?_push_size _ rfl, rfl, rfl⟩, fun b hb => ?_, q⟩
    have e : b = s1.heap.objs.size := by simpa using hb
    subst e
    exact I1.fpOk (Nat.le_refl _) (I1.hok.fresh (Nat.le_refl _))
  · obtain ⟨its, rv, p, hz⟩ := I1.tuple hq
    refine wpAny_pyIter_tuple (show s1.heap.IsTuple a its.toArray from p) ?_
    refine ⟨s1.heap.objs.size, [s1.heap.objs.size], _, _, H1, rfl, I1.kept (t' := s1.toks) fun b o e => Heap.get?_push_of_some _ e, turn_tuple a _, ⟨_, Heap.get?_push_size _ rfl, rfl, rfl⟩, fun b hb => ?_, q⟩
    have e : b = s1.heap.objs.size := by simpa using hb
    subst e
    exact I1.fpOk (Nat.le_refl _) (I1.hok.fresh (Nat.le_refl _))
theorem atI_of' {xs : List V} {i : Int} {v : V} (h0 : 0 ≤ i) (e : xs[i.toNat]? = some v) : atI xs i = some v := by
  obtain ⟨j, rfl⟩ : ∃ j : Nat, i = (j : Int) := ⟨i.toNat, by omega⟩
  exact atI_nat (by rw [Int.toNat_natCast] at e; exact e)
/-! ### weights of ties -/
def gW (ws : List Int) (x : Int) : Int := ws.getD x.toNat 0
def spWeightOf : Sp := fun vs H Q _ => (∃ i, vs = [.non, .int i] ∧ Q (.int 1) H) ∨ ∃ a xs i v, vs = [.ref a, .int i] ∧ H a = some (.tup xs) ∧ atI xs i = some v ∧ Q v H
/-- whose weights: of None each 1 -/
def Wts (H : Hp) (v : V) (ns : List Int) (g : Int → Int) : Prop := (v = .non ∧ ∀ x ∈ ns, g x = 1) ∨ ∃ a ws, v = .ref a ∧ H a = some (.tup (ws.map V.int)) ∧ ∀ x ∈ ns, (0 ≤ x ∧ x < (ws.length : Int)) ∧ g x = gW ws x
theorem Wts.tk {H H' : Hp} (k : Tk H H') {v : V} {ns : List Int} {g : Int → Int} (h : Wts H v ns g) : Wts H' v ns g := by
  rcases h with h | ⟨a, ws, e, h1, h2⟩
  · exact .inl h
  · exact .inr ⟨a, ws, e, k _ _ h1, h2⟩
def sumW (g : Int → Int) (ns : List Int) : Int := (ns.map g).sum
theorem sumW_snoc (g : Int → Int) (ns : List Int) (x : Int) : sumW g (ns ++ [x]) = sumW g ns + g x := by
  unfold sumW
  rw [List.map_append, List.sum_append]
  simp
theorem sumW_one {g : Int → Int} : ∀ {ns : List Int}, (∀ x ∈ ns, g x = 1) → sumW g ns = ns.length
  | [], _ => rfl
  | n :: ns, h => by
    have ih := sumW_one (ns := ns) fun x hx => h x (List.mem_cons_of_mem _ hx)
    unfold sumW at ih ⊢
    rw [List.map_cons, List.sum_cons, ih, h n (by simp), List.length_cons]
    omega
theorem gW_at {ws : List Int} {x : Int} (h0 : 0 ≤ x) (h1 : x < (ws.length : Int)) : atI (ws.map V.int) x = some (.int (gW ws x)) := by
  have h : x.toNat < ws.length := by omega
  refine atI_of' h0 ?_
  unfold gW
  rw [List.getElem?_map, List.getD_eq_getElem?_getD, List.getElem?_eq_getElem h]
  rfl
def spMend (Ps : List Addr) : Sp := fun vs H Q _ => ∃ (v : V) (ta : Addr) (ns : List Int) (g : Int → Int), vs = [v, .ref ta] ∧ (H ta = some (.tup (ns.map V.int)) ∨ H ta = some (.lst (ns.map V.int))) ∧ Wts H v ns g ∧ Tabs Ps H ∧ ∀ H', Kt Ps H H' → Q (.int (sumW g ns)) H'
def spLong : Sp := fun vs H Q _ => ∃ (d c : Addr), vs = [.ref d] ∧ Deck H d c ∧ ∀ v H', 0 ≤ v → Deck H' d c → Kp d c H H' → Q (.int v) H'
section
variable {P : Program} {w : World} {K : PySem.W.Frag} {mg : Str → Option Value} {base : Heap}
theorem ok_weight_of {f : Addr} {fd : FuncData} (F : Fun K "weight_of" "weight_of" s_weight_of f fd) : FnOk P w K mg base CX0 1 f fd ["weights", "tie"] spWeightOf := by
  refine F.ok sc_weight_of (fun vs H Q E h => ?_) (fun cdv A outer s H vs Q E hr h => ?_)
  · rcases h with ⟨i, rfl, _⟩ | ⟨a, xs, i, v, rfl, _⟩ <;> rfl
  · refine ⟨_, (pss_cons (ps_if (pt_cmpR op_isN (pv 0) pe_non (nomark _))
        (pss_one (ps_ret pe_int))
        pss_nil)
      (pss_one (ps_ret (pe_ix ix_tup (pv 0) (pv 1) (fun _ _ => rfl))))), ?_⟩
    rcases h with ⟨i, rfl, q⟩ | ⟨a, xs, i, v, rfl, h1, h2, q⟩
    · exact ⟨.non, rfl, rfl, _, rfl, q⟩
    · exact ⟨.ref a, rfl, rfl, _, rfl, .ref a, rfl, .int i, rfl, a, xs, i, v, rfl, rfl, SqT.of h1, h2, q⟩
theorem ok_mend_weight {f c Pt : Addr} {fd : FuncData} {Ps : List Addr} (F : FunC K "mend_weight" "mend_weight" s_mend_weight f fd c) (TB : GxR.TabB base mg c Pt) (hPt : Pt ∈ Ps) (M : Free mg) (D1 : Df P w K mg base 1 "weight_of" ["weights", "tie"] spWeightOf) : FnOk P w K mg base CX0 3 f fd ["weights", "ties"] (spMend Ps) := by
  obtain ⟨f1, fd1, G1, g1, k1, b1⟩ := D1
  refine F.ok sc_mend_weight (fun vs H Q E h => ?_) (fun A outer s H vs Q E hr h => ?_)
  · obtain ⟨v, ta, ns, g, rfl, _⟩ := h
    rfl
  · obtain ⟨v, ta, ns, g, rfl, hta, hw, hT, q⟩ := h
    refine ⟨_, (pss_one (ps_ret (pe_sum (k := 1) (own := [("tie", 2)]) (g := gName 2) hr TB rfl rfl sc_mend_weight.nd (by rfl) M.sum (pi_seq (pv 1)) (blkOk_by (N := N_mend_weight) (sc := defScope s_mend_weight) (own := [("tie", 2)]) (by decide +kernel)) ⟨rfl, by decide +kernel, by decide +kernel⟩ (show (".0" : Str) ∉ N_mend_weight by decide +kernel)
        (fun _ _ _ _ _ _ _ => pg_name (i := 2) sc_mend_weight.nd rfl (.inl rfl)) (fun _ _ _ _ _ _ _ hr' => pe_call G1 hr' (by rfl) g1 k1 b1 .nil pass0 (pa_cons (pv 0) (pa_cons (pv 2) pa_nil)))))), ?_⟩
    rcases hta with hta | hta
    · refine ⟨.ref ta, rfl, ta, rfl, .inr ⟨⟨_, SqT.of hta⟩, hT Pt hPt, fun i m z H' => i + m = ns.length ∧ Kt Ps H H' ∧ z = sumW g (ns.take i), fun H2 hH2 => ⟨ns.length, by omega, Kt.tabbed hT hPt hH2, rfl⟩, fun i m z H' hw' => ?_⟩⟩
      obtain ⟨em, kt, rfl⟩ := hw'
      have hta' := kt.tup hT hta
      by_cases hi : i < ns.length
      · refine .inr ⟨⟨_, _, SqT.of hta', List.getElem?_eq_getElem (by rw [List.length_map]; exact hi)⟩, fun y H3 => Kt Ps H H3 ∧ y = g ns[i], fun y H3 n3 => ⟨m - 1, by omega, by omega, n3.1, ?_⟩, fun x H3 hy => ?_⟩
        · rw [n3.2, ← sumW_snoc, List.take_add_one, List.getElem?_eq_getElem hi]
          rfl
        · obtain ⟨rfl, fy⟩ := hy
          have ex : (ns.map V.int)[i]? = some x := fy _ (SqT.of hta')
          rw [List.getElem?_map, List.getElem?_eq_getElem hi] at ex
          cases ex
          refine ⟨rfl, v, rfl, .int ns[i], rfl, ?_⟩
          rcases hw with ⟨rfl, h1⟩ | ⟨wa, ws, rfl, h1, h2⟩
          · exact .inl ⟨_, rfl, 1, rfl, kt, (h1 _ (List.getElem_mem hi)).symm⟩
          · obtain ⟨⟨b0, b1⟩, e⟩ := h2 _ (List.getElem_mem hi)
            exact .inr ⟨wa, _, _, _, rfl, kt.tup hT h1, gW_at b0 b1, _, rfl, kt, e.symm⟩
      · refine .inl ⟨⟨_, SqT.of hta', by rw [List.length_map]; omega⟩, ?_⟩
        rw [List.take_of_length_le (by omega)]
        exact q _ kt
    · refine ⟨.ref ta, rfl, ta, rfl, .inl ⟨⟨_, SqL.of hta⟩, hT Pt hPt, fun i m z H' => i + m = ns.length ∧ Kt Ps H H' ∧ z = sumW g (ns.take i), fun H2 hH2 => ⟨ns.length, by omega, Kt.tabbed hT hPt hH2, rfl⟩, fun i m z H' hw' => ?_⟩⟩
      obtain ⟨em, kt, rfl⟩ := hw'
      have hta' := kt.lst hT hta
      by_cases hi : i < ns.length
      · refine .inr ⟨⟨_, _, SqL.of hta', List.getElem?_eq_getElem (by rw [List.length_map]; exact hi)⟩, fun y H3 => Kt Ps H H3 ∧ y = g ns[i], fun y H3 n3 => ⟨m - 1, by omega, by omega, n3.1, ?_⟩, fun x H3 hy => ?_⟩
        · rw [n3.2, ← sumW_snoc, List.take_add_one, List.getElem?_eq_getElem hi]
          rfl
        · obtain ⟨rfl, fy⟩ := hy
          have ex : (ns.map V.int)[i]? = some x := fy _ (SqL.of hta')
          rw [List.getElem?_map, List.getElem?_eq_getElem hi] at ex
          cases ex
          refine ⟨rfl, v, rfl, .int ns[i], rfl, ?_⟩
          rcases hw with ⟨rfl, h1⟩ | ⟨wa, ws, rfl, h1, h2⟩
          · exact .inl ⟨_, rfl, 1, rfl, kt, (h1 _ (List.getElem_mem hi)).symm⟩
          · obtain ⟨⟨b0, b1⟩, e⟩ := h2 _ (List.getElem_mem hi)
            exact .inr ⟨wa, _, _, _, rfl, kt.tup hT h1, gW_at b0 b1, _, rfl, kt, e.symm⟩
      · refine .inl ⟨⟨_, SqL.of hta', by rw [List.length_map]; omega⟩, ?_⟩
        rw [List.take_of_length_le (by omega)]
        exact q _ kt
end
/-! ### the fixed choice, as it is told -/
def spFixed : Sp := fun vs H Q _ => ∃ (v : V) (n : Nat) (ts : List Tie), vs = [v] ∧ WebAt H v n ts ∧ WebOk n ts ∧
  (∀ ss r H', Told ts n ss → Cons ss ts → Same H H' → H' r = some (.tup (ss.map V.int)) → Q (.ref r) H') ∧ ∀ H', Odd ts n → Same H H' → Q .non H'
theorem valV_merge : ∀ {more kvs : List (Key × V)} {k : Key} {v : V}, valV (mergeK kvs more) k = some v → valV kvs k = some v ∨ (k, v) ∈ more
  | [], _, _, _, h => .inl h
  | p :: r, kvs, k, v, h => by
    have q := valV_merge (more := r) (kvs := putK kvs p.1 p.2) (k := k) (v := v) h
    rcases q with q | q
    · rw [valV_put] at q
      by_cases e : k = p.1
      · rw [if_pos e] at q
        obtain rfl := Option.some.inj q
        exact .inr (by rw [e]; simp)
      · rw [if_neg e] at q
        exact .inl q
    · exact .inr (List.mem_cons_of_mem _ q)
theorem told_of {ts : List Tie} {n : Nat} {ss : List Int} (hl : ss.length = n) (h : ∀ (i : Nat) (x : Int), ss[i]? = some x → ∃ m b, leader ts m ∧ RP ts m i b ∧ x = sideI b) : Told ts n ss := by
  refine ⟨hl, fun x hx => ?_, fun i h0 h1 => ?_⟩
  · obtain ⟨i, hi⟩ := List.getElem?_of_mem hx
    obtain ⟨m, b, _, _, rfl⟩ := h i x hi
    cases b
    · exact .inl rfl
    · exact .inr rfl
  · obtain ⟨h', e⟩ := sd_get (ss := ss) h0 (by rw [hl]; exact h1)
    obtain ⟨m, b, l, r, ex⟩ := h i.toNat _ (List.getElem?_eq_getElem h')
    refine ⟨m, l, ?_⟩
    have e2 : one? ss i = b := by
      unfold one?
      rw [e, ex]
      cases b <;> rfl
    rw [e2]
    rw [show ((i.toNat : Nat) : Int) = i from by omega] at r
    exact r
theorem dec_intF (a b : Int) : decide (V.int a = V.int b) = decide (a = b) := by
  by_cases h : a = b
  · rw [decide_eq_true h, h, decide_eq_true rfl]
  · rw [decide_eq_false h, decide_eq_false (fun z => h (V.int.inj z))]
/-! ### the law's own sides, walked -/
structure CS (ts : List Tie) (n : Nat) (ks : List Nb) (i : Nat) : Prop where
  nd : (ks.map (·.1)).Nodup
  ld : ∀ p ∈ ks, ∃ m, leader ts m ∧ RP ts m p.1 p.2
  cl : ∀ x ∈ ks.map (·.1), ∀ y, Rch ts x y → y ∈ ks.map (·.1)
  low : ∀ x : Int, 0 ≤ x → x < i → x ∈ ks.map (·.1)
  rg : ∀ x : Int, x ∈ ks.map (·.1) → 0 ≤ x ∧ x < n
theorem CS.lead {ts : List Tie} {n : Nat} {ks : List Nb} {i : Nat} (h : CS ts n ks i) (ok : ∀ t ∈ ts, TieOk n t) (hi : i < n) (no : (i : Int) ∉ ks.map (·.1)) : leader ts i := by
  rw [lead_iff ok ⟨by omega, by omega⟩]
  rintro ⟨x, x0, x1, r⟩
  exact no (h.cl x (h.low x x0 x1) i r)
theorem CS.off {ts : List Tie} {n : Nat} {ks : List Nb} {i : Nat} (h : CS ts n ks i) (no : (i : Int) ∉ ks.map (·.1)) {y : Int} (r : Rch ts i y) : y ∉ ks.map (·.1) := fun z => no (h.cl y z i r.symm)
theorem CS.more {ts : List Tie} {n : Nat} {ks : List Nb} {i : Nat} (h : CS ts n ks i) (ok : ∀ t ∈ ts, TieOk n t) (hi : i < n) (no : (i : Int) ∉ ks.map (·.1)) {k1 : List Nb} (sf : SF ts i k1 [] []) : CS ts n (ks ++ k1) (i + 1) := by
  have hl := h.lead ok hi no
  have em : (ks ++ k1).map (·.1) = ks.map (·.1) ++ k1.map (·.1) := List.map_append
  refine ⟨?_, fun p hp => ?_, fun x hx y r => ?_, fun x x0 x1 => ?_, fun x hx => ?_⟩
  · rw [em, List.nodup_append]
    refine ⟨h.nd, sf.nd, fun x hx z hz e => ?_⟩
    subst e
    exact h.off no ((sf.all x).mp hz) hx
  · rcases List.mem_append.mp hp with q | q
    · exact h.ld p q
    · exact ⟨_, hl, sf.rp p q⟩
  · rw [em] at hx ⊢
    rcases List.mem_append.mp hx with q | q
    · exact List.mem_append_left _ (h.cl x q y r)
    · exact List.mem_append_right _ ((sf.all y).mpr (((sf.all x).mp q).trans r))
  · rw [em]
    by_cases e : x < i
    · exact List.mem_append_left _ (h.low x x0 e)
    · have : x = i := by omega
      subst this
      exact List.mem_append_right _ ((sf.all _).mpr Rch.refl)
  · rw [em] at hx
    rcases List.mem_append.mp hx with q | q
    · exact h.rg x q
    · exact Rch.rng ok ⟨by omega, by omega⟩ ((sf.all x).mp q)
def valI (ks : List Nb) (j : Nat) : Int := match valV (kvOf ks) (Sum.inl (j : Int)) with
  | some (.int v) => v
  | _ => 0
theorem CS.told {ts : List Tie} {n : Nat} {ks : List Nb} (h : CS ts n ks n) : Told ts n ((List.range n).map (valI ks)) ∧ ∀ x : Int, 0 ≤ x → x < n → valV (kvOf ks) (Sum.inl x) = some (.int (sd ((List.range n).map (valI ks)) x)) := by
  have at' : ∀ j : Nat, j < n → ∃ b m, valV (kvOf ks) (Sum.inl (j : Int)) = some (.int (sideI b)) ∧ valI ks j = sideI b ∧ leader ts m ∧ RP ts m j b := fun j hj => by
    obtain ⟨⟨x, b⟩, hp, e⟩ := List.mem_map.mp (h.low j (by omega) (by omega))
    have e : x = (j : Int) := e
    subst e
    obtain ⟨m, h1, h2⟩ := h.ld _ hp
    have hv := kvOf_some h.nd hp
    refine ⟨b, m, hv, ?_, h1, h2⟩
    unfold valI
    rw [hv]
  refine ⟨told_of (by simp) fun i x e => ?_, fun x x0 x1 => ?_⟩
  · rw [List.getElem?_map] at e
    obtain ⟨j, e1, e2⟩ := Option.map_eq_some_iff.mp e
    have hj := List.mem_range.mp (List.mem_of_getElem? e1)
    rw [List.getElem?_range (by have := (List.getElem?_eq_some_iff.mp e1).1; simpa using this)] at e1
    cases e1
    obtain ⟨b, m, _, h2, h3, h4⟩ := at' i hj
    exact ⟨m, b, h3, h4, by rw [← e2, h2]⟩
  · obtain ⟨j, rfl⟩ : ∃ j : Nat, x = j := ⟨x.toNat, by omega⟩
    obtain ⟨b, m, h1, h2, _⟩ := at' j (by omega)
    rw [h1]
    unfold sd
    rw [Int.toNat_natCast, List.getD_eq_getElem?_getD, List.getElem?_map, List.getElem?_range (by omega)]
    show some (V.int (sideI b)) = some (V.int (valI ks j))
    rw [h2]
def prs (t : Tie) : List (Int × Int) := [(t.one, t.other), (t.other, t.one)]
def PairV (H : Hp) (v : V) (q : Int × Int) : Prop := ∃ a, v = .ref a ∧ H a = some (.tup [.int q.1, .int q.2])
theorem PairV.tk {H H' : Hp} (k : Tk H H') {v : V} {q : Int × Int} (h : PairV H v q) : PairV H' v q := by
  obtain ⟨a, rfl, e⟩ := h
  exact ⟨a, rfl, k _ _ e⟩
def nbE (t : Tie) (p : Int) (e : Nat) : List Nb := ((prs t).take e).flatMap fun q => if q.1 = p then [(q.2, t.foe)] else []
theorem nbE_two (t : Tie) (p : Int) : nbE t p 2 = nb1 t p := by
  unfold nbE nb1 prs
  simp only [List.take_succ_cons, List.take_nil, List.take_zero, List.flatMap_cons, List.flatMap_nil, List.append_nil]
  by_cases h1 : t.one = p <;> by_cases h2 : t.other = p
  · rw [if_pos h1, if_pos h2, if_pos h1.symm, if_pos h2.symm]
  · rw [if_pos h1, if_neg h2, if_pos h1.symm, if_neg (Ne.symm h2)]
  · rw [if_neg h1, if_pos h2, if_neg (Ne.symm h1), if_pos h2.symm]
  · rw [if_neg h1, if_neg h2, if_neg (Ne.symm h1), if_neg (Ne.symm h2)]
theorem nbE_succ {t : Tie} {p : Int} {e : Nat} {q : Int × Int} (h : (prs t)[e]? = some q) : nbE t p (e + 1) = nbE t p e ++ (if q.1 = p then [(q.2, t.foe)] else []) := by
  unfold nbE
  rw [List.take_add_one, h, List.flatMap_append]
  simp
def spLSides : Sp := fun vs H Q _ => ∃ (n : Nat) (L : Addr) (us : List V) (ts : List Tie), vs = [.int n, .ref L] ∧ H L = some (.lst us) ∧ Paired (TieV H) us ts ∧ WebOk n ts ∧ ∀ r H', Same H H' → (r = .non ↔ Odd ts n) → Q r H'
theorem side_add (b f : Bool) : (sideI b + (if decide (V.str (kindS f) = V.str "foe") = true then 1 else 0)) % 2 = sideI (b ^^ f) := by
  cases f <;> cases b <;> rfl
theorem Paired.app2 {α β : Type} {F : α → β → Prop} {a b : α} {x y : β} (h : F a x) (g : F b y) : Paired F [a, b] [x, y] := .cons h (.cons g .nil)
section
variable {P : Program} {w : World} {K : PySem.W.Frag} {mg : Str → Option Value} {base : Heap}
theorem ok_l_sides {f : Addr} {fd : FuncData} (F : Fun K "_law_sides" "_law_sides" s_l_sides f fd) (M : Free mg) : FnOk P w K mg base CX0 1 f fd ["_law_many", "_law_ties_here"] spLSides := by
  refine F.ok sc_l_sides (fun vs H Q E h => ?_) (fun cdv A outer s H vs Q E hr h => ?_)
  · obtain ⟨n, L, us, ts, rfl, _⟩ := h
    rfl
  · obtain ⟨n, L, us, ts, rfl, hL, hp, ok, q⟩ := h
    have hu := room1 hr
    refine ⟨_, (pss_cons (ps_set (i := 2) sc_l_sides.nd rfl (.inl rfl) pe_dnewK)
      (pss_cons (ps_for PassesOwn.never rfl (pi_range1 (by rfl) M.range (pa_cons (pv 0) pa_nil)) (pg_name (i := 3) sc_l_sides.nd rfl (.inl rfl))
        (pss_one (ps_if (pt_cmp (pc_dnotin hu (pv 3) (pv 2)))
          (pss_cons (ps_dput hu (pv 2) (pv 3) pe_int rfl)
          (pss_cons (ps_set (i := 4) sc_l_sides.nd rfl (.inl rfl) (pe_lst (pa_cons (pv 3) pa_nil)))
          (pss_one (ps_while PassesOwn.never (pt_cmpR (op_neE hr.units0) (pv 4) (pe_lst pa_nil) (nomark _))
            (pss_cons (ps_set (i := 5) sc_l_sides.nd rfl (.inl rfl) (pe_bm0 PySem.F.plainAttrs_list PySem.F.slot_list_pop PySem.F.type_list_pop mt_pop (pv 4)))
            (pss_one (ps_for PassesOwn.never rfl (pi_list (pv 1)) (pg_tup rfl (pgs_cons (pg_name (i := 6) sc_l_sides.nd rfl (.inl rfl)) (pgs_cons (pg_name (i := 7) sc_l_sides.nd rfl (.inl rfl)) (pgs_cons (pg_name (i := 8) sc_l_sides.nd rfl (.inl rfl)) pgs_nil))))
              (pss_one (ps_for PassesOwn.never rfl (pi_tup (pe_tup (pa_cons (pe_tup (pa_cons (pv 6) (pa_cons (pv 7) pa_nil))) (pa_cons (pe_tup (pa_cons (pv 7) (pa_cons (pv 6) pa_nil))) pa_nil)))) (pg_tup rfl (pgs_cons (pg_name (i := 9) sc_l_sides.nd rfl (.inl rfl)) (pgs_cons (pg_name (i := 10) sc_l_sides.nd rfl (.inl rfl)) pgs_nil)))
                (pss_one (ps_if (PW.pt (pw_and (pt_cmpR op_eq (pv 9) (pv 5) (nomark _)) (pw_and1 (pt_cmp (pc_dnotin hu (pv 10) (pv 2))))))
                  (Evl.pss_cut (ps_dput hu (pv 2) (pv 10) (pe_op op_mod (pe_op op_add (pe_dget hu (pv 2) (pv 5) (fun _ _ => rfl)) (pe_callTy call_int1 (by rfl) M.int (by decide +kernel) (pa_cons (pe_cmpR op_eq (pv 8) pe_str (nomark _)) pa_nil))) pe_int) rfl)
                  (pss_one (ps_expr (pe_bm PySem.F.plainAttrs_list PySem.F.slot_list_append PySem.F.type_list_append mt_append (pv 4) (pa_cons (pv 10) pa_nil)))))
                  pss_nil)))))))))))
          pss_nil)))
      (pss_cons (ps_for PassesOwn.never rfl (pi_list (pv 1)) (pg_tup rfl (pgs_cons (pg_name (i := 6) sc_l_sides.nd rfl (.inl rfl)) (pgs_cons (pg_name (i := 7) sc_l_sides.nd rfl (.inl rfl)) (pgs_cons (pg_name (i := 8) sc_l_sides.nd rfl (.inl rfl)) pgs_nil))))
        (pss_one (ps_if (pt_cmpR op_eq (pe_cmpR op_eq (pe_dget hu (pv 2) (pv 6) (fun _ _ => rfl)) (pe_dget hu (pv 2) (pv 7) (fun _ _ => rfl)) (nomark _)) (pe_cmpR op_eq (pv 8) pe_str (nomark _)) (nomark _))
          (pss_one (ps_ret pe_non))
          pss_nil)))
      (pss_one (ps_ret (pv 2)))))), ?_⟩
    have few := ok.few
    have nhi := ok.hi
    have nlo := ok.lo
    have hlen : us.length = ts.length := Paired.length hp
    refine fun d nd => ?_
    refine ⟨.int n, rfl, _, rfl, by omega, by omega, ?_⟩
    refine for_range (lo := 0) (n := n) (fun i σ' H' => ∃ (y3 y4 y5 y6 y7 y8 y9 y10 : Option V) (ks : List Nb), σ' = [some (.int n), some (.ref L), some (.ref d), y3, y4, y5, y6, y7, y8, y9, y10] ∧ H' d = some (.dK (kvOf ks)) ∧ Same H H' ∧ CS ts n ks i) ⟨none, none, none, none, none, none, none, none, [], rfl, upd_same, same_new nd, ⟨by simp, fun p hp => by simp at hp, fun x hx => by simp at hx, fun x x0 x1 => by omega, fun x hx => by simp at hx⟩⟩ ?_ ?_
    · rintro i σ' H1 hi ⟨y3, y4, y5, y6, y7, y8, y9, y10, ks, rfl, hd, s1, cs⟩
      rw [show (0 : Int) + (i : Nat) = (i : Nat) from by omega]
      refine ⟨.int (i : Nat), rfl, .ref d, rfl, d, _, rfl, DGet.k (k := Sum.inl (i : Int)) hd, _, rfl, ?_⟩
      have lks : ks.length ≤ n := by
        have := pigeon n (ks.map (·.1)) cs.nd cs.rg
        rw [List.length_map] at this
        exact this
      by_cases hin : (i : Int) ∈ ks.map (·.1)
      · obtain ⟨⟨x, b⟩, hpb, e⟩ := List.mem_map.mp hin
        have e : x = (i : Int) := e
        subst e
        rw [kvOf_some cs.nd hpb]
        refine ⟨_, _, _, _, _, _, _, _, ks, rfl, hd, s1, ⟨cs.nd, cs.ld, cs.cl, fun x x0 x1 => ?_, cs.rg⟩⟩
        by_cases e : x < i
        · exact cs.low x x0 e
        · have : x = i := by omega
          rw [this]
          exact hin
      · rw [kvOf_none hin]
        have ep := kvOf_put (b := false) hin
        refine ⟨.ref d, rfl, .int (i : Nat), rfl, d, _, rfl, DPut.k (k := Sum.inl (i : Int)) hd (by rw [kvOf_len]; exact small1000 (by omega)), ?_⟩
        rw [show putK (kvOf ks) (Sum.inl (i : Int)) (V.int 0) = kvOf (ks ++ [((i : Int), false)]) from ep]
        have hd2 : (upd H1 d (.dK (kvOf (ks ++ [((i : Int), false)])))) d = some (.dK (kvOf (ks ++ [((i : Int), false)]))) := upd_same
        have s2 : Same H (upd H1 d (.dK (kvOf (ks ++ [((i : Int), false)])))) := Same.mut s1 nd
        generalize upd H1 d (.dK (kvOf (ks ++ [((i : Int), false)]))) = H2 at hd2 s2
        refine ⟨.int (i : Nat), rfl, by show 1 ≤ sizeLine; decide, fun W nW => ?_⟩
        have hdW : W ≠ d := (ne_of_none hd2 nW).symm
        have nWH : H W = none := s2.free nW
        have adr : ∀ x : Int, (0 ≤ (i : Int) ∧ (i : Int) < n) := fun _ => ⟨by omega, by omega⟩
        refine ⟨fun m σ' H' => ∃ (y5 y6 y7 y8 y9 y10 : Option V) (k1 : List Nb) (wl : List Int), σ' = [some (.int n), some (.ref L), some (.ref d), some (.int (i : Nat)), some (.ref W), y5, y6, y7, y8, y9, y10] ∧ H' d = some (.dK (kvOf (ks ++ k1))) ∧ H' W = some (.lst (wl.map V.int)) ∧ Same H H' ∧ SF ts i k1 wl [] ∧ m = 2 * (n - k1.length) + wl.length, ⟨_, y5, y6, y7, y8, y9, y10, [((i : Int), false)], [(i : Int)], rfl, ?_, upd_same, Same.mut s2 nWH, ?_, rfl⟩, ?_⟩
        · rw [upd_ne (Ne.symm hdW)]
          exact hd2
        · exact ⟨by simp, fun p hp => by rw [List.mem_singleton.mp hp]; exact .nil, by simp, fun x hx => hx, Nat.le_refl _, fun x hx h1 => absurd hx h1⟩
        · clear hd hd2 s1 s2 nW
          rintro m σ' H3 ⟨y5, y6, y7, y8, y9, y10, k1, wl, rfl, hd3, hW3, s3, sf, hm⟩
          refine ⟨.ref W, rfl, Nat.zero_le _, fun p0 n0 => ⟨W, p0, wl.map V.int, rfl, rfl, SqL.of (same_new n0 _ _ hW3), SqL.of upd_same, _, rfl, ?_⟩⟩
          have hd4 := same_new (o := .lst []) n0 _ _ hd3
          have hW4 := same_new (o := .lst []) n0 _ _ hW3
          have s4 := s3.trans (same_new (o := .lst []) n0)
          clear hd3 hW3 s3
          generalize upd H3 p0 (.lst []) = H4 at hd4 hW4 s4
          have fewk := sf.few ok.ok ⟨by omega, by omega⟩
          cases hwl : wl with
          | nil =>
            subst hwl
            refine ⟨_, _, _, _, _, _, _, _, ks ++ k1, rfl, hd4, s4, ?_⟩
            exact cs.more ok.ok hi hin sf
          | cons z zs =>
            obtain ⟨ys, p, e⟩ : ∃ (ys : List Int) (p : Int), z :: zs = ys ++ [p] := ⟨(z :: zs).dropLast, (z :: zs).getLast (by simp), (List.dropLast_concat_getLast (by simp)).symm⟩
            have hb : (!(List.map V.int (z :: zs)).isEmpty) = true := rfl
            rw [hb]
            rw [hwl, e] at hW4 sf hm
            have hpk := sf.sub p (by simp)
            obtain ⟨b, hb1, hb2⟩ := sf.keys hpk
            have sp := sf.pop
            have e3 : ((ys ++ [p]).map V.int).dropLast = ys.map V.int := by simp
            refine ⟨fun σ' H' => ∃ m', m' < m ∧ ∃ (y5 y6 y7 y8 y9 y10 : Option V) (k1 : List Nb) (wl : List Int), σ' = [some (.int n), some (.ref L), some (.ref d), some (.int (i : Nat)), some (.ref W), y5, y6, y7, y8, y9, y10] ∧ H' d = some (.dK (kvOf (ks ++ k1))) ∧ H' W = some (.lst (wl.map V.int)) ∧ Same H H' ∧ SF ts i k1 wl [] ∧ m' = 2 * (n - k1.length) + wl.length, fun _ _ h => h, ?_⟩
            refine ⟨.ref W, rfl, .inl ⟨rfl, _, SqL.of hW4⟩, W, _, .int p, rfl, rfl, hW4, by simp, ?_⟩
            rw [e3]
            have hd5 : (upd H4 W (.lst (ys.map V.int))) d = some (.dK (kvOf (ks ++ k1))) := by rw [upd_ne (Ne.symm hdW)]; exact hd4
            have hW5 : (upd H4 W (.lst (ys.map V.int))) W = some (.lst (ys.map V.int)) := upd_same
            have s5 : Same H (upd H4 W (.lst (ys.map V.int))) := Same.mut s4 nWH
            generalize upd H4 W (.lst (ys.map V.int)) = H5 at hd5 hW5 s5
            refine ⟨.ref L, rfl, L, rfl, ⟨_, SqL.of (s5 _ _ hL)⟩, ?_⟩
            refine for_list (xs := us) (fun j σ' H' => ∃ (y6 y7 y8 y9 y10 : Option V) (k1 : List Nb) (wl : List Int), σ' = [some (.int n), some (.ref L), some (.ref d), some (.int (i : Nat)), some (.ref W), some (.int p), y6, y7, y8, y9, y10] ∧ H' d = some (.dK (kvOf (ks ++ k1))) ∧ H' W = some (.lst (wl.map V.int)) ∧ Same H H' ∧ SF ts i k1 wl [p] ∧ (p, b) ∈ k1 ∧ (∀ q ∈ nbs (ts.take j) p, q.1 ∈ k1.map (·.1)) ∧ 2 * (n - k1.length) + wl.length < m) ?_ ?_ ?_ ?_
            · exact ⟨y6, y7, y8, y9, y10, k1, ys, rfl, hd5, hW5, s5, sp, hb1, fun q hq => by simp [nbs] at hq, by rw [hm, List.length_append]; simp⟩
            · rintro j σ' H' _ ⟨y6, y7, y8, y9, y10, k1, wl, rfl, _, _, s6, _⟩
              exact SqL.of (s6 _ _ hL)
            · clear hd5 hW5 s5 sp hb1 hpk sf hm hd4 hW4 s4
              rintro j u σ' H6 eu ⟨y6, y7, y8, y9, y10, k1, wl, rfl, hd6, hW6, s6, sf6, hb6, hdn, hlt⟩
              obtain ⟨t, et, c, rfl, hc⟩ := Paired.at hp eu
              have tmem := List.mem_of_getElem? et
              refine ⟨c, _, rfl, SqT.of (s6 _ _ hc), rfl, _, _, rfl, _, _, rfl, _, _, rfl, rfl, ?_⟩
              refine ⟨.int t.one, rfl, .int t.other, rfl, by show 2 ≤ sizeLine; decide, fun p1 n1 => ?_⟩
              refine ⟨.int t.other, rfl, .int t.one, rfl, by show 2 ≤ sizeLine; decide, fun p2 n2 => ⟨by show 2 ≤ sizeLine; decide, fun p3 n3 => ?_⟩⟩
              have s7 := (same_new (o := .tup [.int t.one, .int t.other]) n1)
              have s8 := (same_new (o := .tup [.int t.other, .int t.one]) n2)
              have s9 := (same_new (o := .tup [.ref p1, .ref p2]) n3)
              have s789 := (s7.trans s8).trans s9
              have pp : Paired (PairV _) [V.ref p1, .ref p2] (prs t) := Paired.app2 ⟨p1, rfl, s9 _ _ (s8 _ _ upd_same)⟩ ⟨p2, rfl, s9 _ _ upd_same⟩
              have h3 : _ = some (HO.tup [.ref p1, .ref p2]) := upd_same (H := upd (upd H6 p1 (.tup [.int t.one, .int t.other])) p2 (.tup [.int t.other, .int t.one])) (a := p3)
              have hd9 := s789 _ _ hd6
              have hW9 := s789 _ _ hW6
              have s10 := s6.trans s789
              clear hd6 hW6 s6 s7 s8 s9 s789 n1 n2 n3
              generalize upd (upd (upd H6 p1 (.tup [.int t.one, .int t.other])) p2 (.tup [.int t.other, .int t.one])) p3 (.tup [.ref p1, .ref p2]) = H9 at pp h3 hd9 hW9 s10
              refine ⟨p3, rfl, ⟨_, SqT.of h3⟩, ?_⟩
              refine for_tup (xs := [.ref p1, .ref p2]) (fun e σ' H' => ∃ (y9 y10 : Option V) (k1 : List Nb) (wl : List Int), σ' = [some (.int n), some (.ref L), some (.ref d), some (.int (i : Nat)), some (.ref W), some (.int p), some (.int t.one), some (.int t.other), some (.str (kindS t.foe)), y9, y10] ∧ H' d = some (.dK (kvOf (ks ++ k1))) ∧ H' W = some (.lst (wl.map V.int)) ∧ Same H H' ∧ Tk H9 H' ∧ SF ts i k1 wl [p] ∧ (p, b) ∈ k1 ∧ (∀ q ∈ nbs (ts.take j) p ++ nbE t p e, q.1 ∈ k1.map (·.1)) ∧ 2 * (n - k1.length) + wl.length < m) ?_ ?_ ?_ ?_
              · exact ⟨y9, y10, k1, wl, rfl, hd9, hW9, s10, ⟨fun _ _ z => z, fun _ _ _ z => z⟩, sf6, hb6, fun q hq => hdn q (by simpa [nbE] using hq), hlt⟩
              · rintro e σ' H' _ ⟨y9, y10, k1, wl, rfl, _, _, _, tk, _⟩
                exact SqT.of (tk _ _ h3)
              · clear hd9 hW9 s10 sf6 hb6 hdn hlt
                rintro e v σ' H10 ev ⟨y9, y10, k1, wl, rfl, hd10, hW10, s10, tk10, sf10, hb10, hdn, hlt⟩
                obtain ⟨q, eq, a, rfl, ha⟩ := Paired.at pp ev
                refine ⟨a, _, rfl, SqT.of (tk10 _ _ ha), rfl, _, _, rfl, _, _, rfl, rfl, ?_⟩
                refine ⟨.int q.1, rfl, .int p, rfl, rfl, _, rfl, ?_⟩
                rw [dec_intF]
                have esucc := nbE_succ (p := p) eq
                by_cases h1 : q.1 = p
                · rw [decide_eq_true h1]
                  rw [if_pos h1] at esucc
                  have ady : Adj ts p q.2 t.foe := by
                    refine ⟨t, tmem, rfl, ?_⟩
                    have hq : q ∈ prs t := List.mem_of_getElem? eq
                    unfold prs at hq
                    simp only [List.mem_cons, List.not_mem_nil, or_false] at hq
                    rcases hq with e | e
                    · subst e
                      exact .inl ⟨h1, rfl⟩
                    · subst e
                      exact .inr ⟨rfl, h1⟩
                  have few10 := sf10.few ok.ok ⟨by omega, by omega⟩
                  have off : q.2 ∉ ks.map (·.1) := cs.off hin ((show Rch ts i p from ⟨b, sf10.rp _ hb10⟩).trans (Rch.adj ady))
                  have nd10 : ((ks ++ k1).map (·.1)).Nodup := by
                    rw [List.map_append, List.nodup_append]
                    refine ⟨cs.nd, sf10.nd, fun x hx z hz e => ?_⟩
                    subst e
                    obtain ⟨bb, _, r⟩ := sf10.keys hz
                    exact cs.off hin ⟨bb, r⟩ hx
                  refine ⟨.int q.2, rfl, .ref d, rfl, d, _, rfl, DGet.k (k := Sum.inl q.2) hd10, _, rfl, ?_⟩
                  by_cases hy : q.2 ∈ k1.map (·.1)
                  · obtain ⟨yb, yb1, _⟩ := sf10.keys hy
                    rw [kvOf_some nd10 (List.mem_append_right _ yb1)]
                    refine ⟨_, _, k1, wl, rfl, hd10, hW10, s10, tk10, sf10, hb10, fun z hz => ?_, hlt⟩
                    rw [esucc, ← List.append_assoc] at hz
                    rcases List.mem_append.mp hz with z1 | z1
                    · exact hdn z z1
                    · rw [List.mem_singleton.mp z1]
                      exact hy
                  · have hy' : q.2 ∉ (ks ++ k1).map (·.1) := by
                      rw [List.map_append, List.mem_append]
                      exact fun z => z.elim off hy
                    rw [kvOf_none hy']
                    have sfp := sf10.push (sf10.rp _ hb10) ady hy
                    have few2 := sfp.few ok.ok ⟨by omega, by omega⟩
                    have l10 : (kvOf (ks ++ k1)).length < sizeLine := by rw [kvOf_len, List.length_append]; exact small1000 (by omega)
                    have vp := kvOf_some nd10 (List.mem_append_right ks hb10)
                    have ep := kvOf_put (b := b ^^ t.foe) hy'
                    refine ⟨fun σ' H' => σ' = [some (.int n), some (.ref L), some (.ref d), some (.int (i : Nat)), some (.ref W), some (.int p), some (.int t.one), some (.int t.other), some (.str (kindS t.foe)), some (.int q.1), some (.int q.2)] ∧ H' = upd H10 d (.dK (kvOf (ks ++ (k1 ++ [(q.2, b ^^ t.foe)])))), ?_, ?_⟩
                    · refine ⟨.ref d, rfl, .int p, rfl, d, _, rfl, (by rw [← vp]; exact DGet.k (k := Sum.inl p) hd10), .str (kindS t.foe), rfl, rfl, .inr ⟨_, rfl, _, _, rfl, rfl, _, 2, rfl, rfl, (show (0 : Int) < 2 by decide), .ref d, rfl, .int q.2, rfl, d, _, rfl, DPut.k (k := Sum.inl q.2) hd10 l10, rfl, ?_⟩⟩
                      rw [← List.append_assoc, ← ep, ← side_add]
                    · rintro σ' H11 ⟨rfl, rfl⟩
                      have hW11 : (upd H10 d (.dK (kvOf (ks ++ (k1 ++ [(q.2, b ^^ t.foe)]))))) W = some (.lst (wl.map V.int)) := by rw [upd_ne hdW]; exact hW10
                      have lw := sf10.le
                      refine ⟨.ref W, rfl, .inl ⟨rfl, _, SqL.of hW11⟩, .int q.2, rfl, W, _, _, rfl, rfl, hW11, by rw [List.length_map]; exact small1000 (by omega), ?_⟩
                      refine ⟨_, _, k1 ++ [(q.2, b ^^ t.foe)], wl ++ [q.2], rfl, ?_, by rw [upd_same, List.map_append]; rfl, Same.mut (Same.mut s10 nd) nWH, tk10.trans ((tk_dk hd10).trans (tk_lst hW11)), sfp, List.mem_append_left _ hb10, fun z hz => ?_, ?_⟩
                      · rw [upd_ne (Ne.symm hdW)]
                        exact upd_same
                      · rw [List.map_append]
                        rw [esucc, ← List.append_assoc] at hz
                        rcases List.mem_append.mp hz with z1 | z1
                        · exact List.mem_append_left _ (hdn z z1)
                        · rw [List.mem_singleton.mp z1]
                          exact List.mem_append_right _ (by simp)
                      · rw [List.length_append, List.length_append] at *
                        simp only [List.length_cons, List.length_nil] at *
                        omega
                · rw [decide_eq_false h1]
                  rw [if_neg h1, List.append_nil] at esucc
                  exact ⟨_, _, k1, wl, rfl, hd10, hW10, s10, tk10, sf10, hb10, by rw [esucc]; exact hdn, hlt⟩
              · clear hd9 hW9 s10 sf6 hb6 hdn hlt
                rintro σ' H10 ⟨y9, y10, k1, wl, rfl, hd10, hW10, s10, tk10, sf10, hb10, hdn, hlt⟩
                refine ⟨_, _, _, _, _, k1, wl, rfl, hd10, hW10, s10, sf10, hb10, ?_, hlt⟩
                rw [List.take_add_one, et]
                show ∀ q ∈ nbs (List.take j ts ++ [t]) p, _
                rw [nbs_snoc, ← nbE_two]
                exact hdn
            · clear hd5 hW5 s5 sp hb1 hpk sf hm hd4 hW4 s4
              rintro σ' H6 ⟨y6, y7, y8, y9, y10, k1, wl, rfl, hd6, hW6, s6, sf6, hb6, hdn, hlt⟩
              rw [hlen, List.take_length] at hdn
              exact ⟨_, hlt, _, _, _, _, _, _, k1, wl, rfl, hd6, hW6, s6, sf6.done hdn, rfl⟩
    · rintro σ' H1 ⟨y3, y4, y5, y6, y7, y8, y9, y10, ks, rfl, hd, s1, cs⟩
      obtain ⟨told, vals⟩ := cs.told
      generalize (List.range n).map (valI ks) = ss at told vals
      have okt : ∀ t ∈ ts, TieOk ss.length t := fun t ht => by rw [told.len]; exact ok.ok t ht
      refine ⟨.ref L, rfl, L, rfl, ⟨_, SqL.of (s1 _ _ hL)⟩, ?_⟩
      refine for_list (xs := us) (fun j σ' H' => ∃ (y6 y7 y8 : Option V), σ' = [some (.int n), some (.ref L), some (.ref d), y3, y4, y5, y6, y7, y8, y9, y10] ∧ H' = H1 ∧ ∀ t ∈ ts.take j, brk ss t = false) ⟨y6, y7, y8, rfl, rfl, fun t ht => by simp at ht⟩ (fun j σ' H' _ h => by
        obtain ⟨_, _, _, _, e, _⟩ := h
        rw [e]
        exact SqL.of (s1 _ _ hL)) ?_ ?_
      · rintro j u σ' H2 eu ⟨y6, y7, y8, rfl, e, hal⟩
        subst e
        obtain ⟨t, et, c, rfl, hc⟩ := Paired.at hp eu
        have tmem := List.mem_of_getElem? et
        have o := ok.ok t tmem
        have g1 : DGet H2 d (.int t.one) (some (.int (sd ss t.one))) := by rw [← vals t.one o.1 o.2.1]; exact DGet.k (k := Sum.inl t.one) hd
        have g2 : DGet H2 d (.int t.other) (some (.int (sd ss t.other))) := by rw [← vals t.other o.2.2.1 o.2.2.2.1]; exact DGet.k (k := Sum.inl t.other) hd
        refine ⟨c, _, rfl, SqT.of (s1 _ _ hc), rfl, _, _, rfl, _, _, rfl, _, _, rfl, rfl, ?_⟩
        refine ⟨.ref d, rfl, .int t.one, rfl, d, _, rfl, g1, .ref d, rfl, .int t.other, rfl, d, _, rfl, g2, rfl, .str (kindS t.foe), rfl, rfl, rfl, _, rfl, ?_⟩
        rw [eq_brk]
        have eb : (decide (sd ss t.one = sd ss t.other) == t.foe) = brk ss t := rfl
        rw [eb]
        cases hb : brk ss t with
        | true => exact q _ _ s1 ⟨fun _ => told_odd ok.ok told tmem hb, fun _ => rfl⟩
        | false =>
          refine ⟨_, _, _, rfl, rfl, fun z hz => ?_⟩
          rw [List.take_add_one, et] at hz
          rcases List.mem_append.mp hz with h | h
          · exact hal z h
          · have : z = t := by simpa using h
            rw [this]
            exact hb
      · rintro σ' H2 ⟨y6, y7, y8, rfl, e, hal⟩
        subst e
        rw [hlen, List.take_length] at hal
        exact ⟨_, rfl, q _ _ s1 ⟨(fun z => by cases z), fun odd => absurd odd (cons_no_odd told.bin okt hal)⟩⟩
end
/-! ### k36: webs, and what is a mend, by the law -/
def spLTies : Sp := fun vs H Q _ => ∃ (d c : Addr) (n m : Int), vs = [.ref d, .int n, .int m] ∧ Deck H d c ∧ 1 ≤ n ∧ n ≤ 40 ∧ 0 ≤ m ∧ m ≤ 120 ∧ ∀ r us ts H', H' r = some (.tup us) → Paired (TieV H') us ts → WebOk n ts → (ts.length : Int) ≤ m → Deck H' d c → Kp d c H H' → Q (.ref r) H'
def listD (xs : List Int) : PyData := .list (xs.map PyData.int)
theorem shaped_listD (xs : List Int) : SeqAt.shaped (listD xs) = true := by
  unfold SeqAt.shaped listD
  rw [PyData.canLay0, PyData.depth, lay_ints, deep_ints]
  rfl
theorem eqvAll_ints : ∀ xs ys : List Int, PyData.eqvAll (xs.map PyData.int) (ys.map PyData.int) = decide (xs = ys)
  | [], [] => by simp [PyData.eqvAll]
  | [], y :: ys => by simp [PyData.eqvAll]
  | x :: xs, [] => by simp [PyData.eqvAll]
  | x :: xs, y :: ys => by
    rw [List.map_cons, List.map_cons, PyData.eqvAll, eqvAll_ints xs ys, PyData.eqv]
    by_cases h1 : x = y <;> by_cases h2 : xs = ys <;> simp [h1, h2]
theorem eqv_listD (xs ys : List Int) : PyData.eqv (listD xs) (listD ys) = decide (xs = ys) := by
  unfold listD
  rw [PyData.eqv]
  exact eqvAll_ints xs ys
theorem sorted_same {ks zs : List Int} (p : zs.Pairwise (· < ·)) (m : ∀ k, k ∈ zs ↔ k ∈ ks) : ks = zs ↔ ks.Pairwise (· < ·) := by
  constructor
  · intro e
    rw [e]
    exact p
  · intro q
    exact rising_ext q p fun z => (m z).symm
theorem in_ints (k : Int) (ks : List Int) : inV (.int k) (ks.map V.int) = ks.contains k := by
  unfold inV
  rw [Bool.eq_iff_iff, List.any_map, List.any_eq_true, List.contains_iff_mem]
  constructor
  · rintro ⟨x, hx, e⟩
    have e' : (x == k) = true := e
    rw [beq_iff_eq] at e'
    rw [← e']
    exact hx
  · intro h
    exact ⟨k, h, by show (k == k) = true; simp⟩
section
variable {P : Program} {w : World} {K : PySem.W.Frag} {mg : Str → Option Value} {base : Heap}
theorem ok_l_ties {f : Addr} {fd : FuncData} (F : Fun K "_law_ties" "_law_ties" s_l_ties f fd) (M : Free mg) (D_l_take : Df P w K mg base 1 "_law_take" ["_law_deck_here", "_law_many"] spDraw) : FnOk P w K mg base CX0 2 f fd ["_law_deck_here", "_law_many", "_law_most"] spLTies := by
  obtain ⟨f_l_take, fd_l_take, G_l_take, g_l_take, k_l_take, b_l_take⟩ := D_l_take
  refine F.ok sc_l_ties (fun vs H Q E h => ?_) (fun cdv A outer s H vs Q E hr h => ?_)
  · obtain ⟨d, c, n, m, rfl, _⟩ := h
    rfl
  · obtain ⟨d, c, n, m, rfl, hD, n1, n2, m0, m1, q⟩ := h
    refine ⟨_, (pss_cons (ps_set (i := 3) sc_l_ties.nd rfl (.inl rfl) (pe_lst pa_nil))
      (pss_cons (ps_while PassesOwn.never (PW.pt (pw_and (pt_cmpR op_gt (pv 1) pe_int (nomark _)) (pw_and1 (pt_cmpR op_lt (pe_callB call_len_seq (by rfl) M.len PySem.boot_len (pa_cons (pv 3) pa_nil)) (pv 2) (nomark _)))))
        (pss_cons (ps_set (i := 4) sc_l_ties.nd rfl (.inl rfl) (pe_call G_l_take (hr.mono (by decide)) (by rfl) g_l_take k_l_take b_l_take .nil pass0 (pa_cons (pv 0) (pa_cons (pv 1) pa_nil))))
        (Evl.pss_cut (ps_set (i := 5) sc_l_ties.nd rfl (.inl rfl) (pe_op op_mod (pe_op op_add (pe_op op_add (pv 4) pe_int) (pe_call G_l_take (hr.mono (by decide)) (by rfl) g_l_take k_l_take b_l_take .nil pass0 (pa_cons (pv 0) (pa_cons (pe_op op_sub (pv 1) pe_int) pa_nil)))) (pv 1)))
        (Evl.pss_cut (ps_expr (pe_bm PySem.F.plainAttrs_list PySem.F.slot_list_append PySem.F.type_list_append mt_append (pv 3) (pa_cons (pe_tup (pa_cons (pv 4) (pa_cons (pv 5) (pa_cons (pe_ix ix_list (pe_lst (pa_cons pe_str (pa_cons pe_str pa_nil))) (pe_call G_l_take (hr.mono (by decide)) (by rfl) g_l_take k_l_take b_l_take .nil pass0 (pa_cons (pv 0) (pa_cons pe_int pa_nil))) (fun _ _ => rfl)) pa_nil)))) pa_nil)))
        (pss_one (ps_if (PW.pt (pw_and (pt_cmpR op_eq (pe_call G_l_take (hr.mono (by decide)) (by rfl) g_l_take k_l_take b_l_take .nil pass0 (pa_cons (pv 0) (pa_cons pe_int pa_nil))) pe_int (nomark _)) (pw_and1 (pt_cmpR op_lt (pe_callB call_len_seq (by rfl) M.len PySem.boot_len (pa_cons (pv 3) pa_nil)) (pv 2) (nomark _)))))
          (pss_one (ps_expr (pe_bm PySem.F.plainAttrs_list PySem.F.slot_list_append PySem.F.type_list_append mt_append (pv 3) (pa_cons (pe_tup (pa_cons (pv 5) (pa_cons (pv 4) (pa_cons (pe_ix ix_list (pe_lst (pa_cons pe_str (pa_cons pe_str pa_nil))) (pe_call G_l_take (hr.mono (by decide)) (by rfl) g_l_take k_l_take b_l_take .nil pass0 (pa_cons (pv 0) (pa_cons pe_int pa_nil))) (fun _ _ => rfl)) pa_nil)))) pa_nil))))
          pss_nil))))))
      (pss_one (ps_ret (pe_callTy call_tuple_of (by rfl) M.tuple (by decide +kernel) (pa_cons (pv 3) pa_nil)))))), ?_⟩
    refine ⟨Nat.zero_le _, fun L nL => ?_⟩
    have hLd := hD.ned nL
    let W : Int → List V → List Tie → Hp → Prop := fun k us ts H' => H' L = some (.lst us) ∧ Paired (TieV H') us ts ∧ (∀ t ∈ ts, TieOk n t) ∧ (ts.length : Int) ≤ m ∧ k = m - ts.length ∧ Deck H' d c ∧ Kp d c H H'
    have exit : ∀ k us ts H', W k us ts H' → ∀ b, H' b = none → Q (.ref b) (upd H' b (.tup us)) := fun k us ts H' ⟨hL, hp, ok, hl, _, D, K⟩ b nb => q b us ts _ upd_same (ties_tk (Same.tk (same_new nb)) hp) ⟨n1, n2, by omega, ok⟩ hl (D.new nb) (K.trans (Kp.new nb))
    -- one tie more
    have more : ∀ (us : List V) (ts : List Tie) (H' : Hp) (t : Tie) (p : Addr), W (m - ts.length) us ts H' → (ts.length : Int) < m → TieOk n t → H' p = none → us.length < sizeLine ∧ W (m - ts.length - 1) (us ++ [.ref p]) (ts ++ [t]) (upd (upd H' p (.tup [.int t.one, .int t.other, .str (kindS t.foe)])) L (.lst (us ++ [.ref p]))) := fun us ts H' t p ⟨hL, hp, ok, hl, _, D, K⟩ lt okt np => by
      have lu : us.length = ts.length := Paired.length hp
      have hL2 := same_new (o := .tup [.int t.one, .int t.other, .str (kindS t.foe)]) np _ _ hL
      refine ⟨small1000 (by omega), upd_same, ?_, fun z hz => ?_, ?_, ?_, (D.new np).mut hLd.1 hLd.2, (K.trans (Kp.new np)).mut nL⟩
      · exact Paired.snoc (ties_tk (tk_lst hL2) (ties_tk (Same.tk (same_new np)) hp)) ⟨p, rfl, tk_lst hL2 _ _ upd_same⟩
      · rcases List.mem_append.mp hz with h | h
        · exact ok z h
        · rw [List.mem_singleton.mp h]
          exact okt
      · rw [List.length_append]
        show ((ts.length + 1 : Nat) : Int) ≤ m
        omega
      · rw [List.length_append]
        show m - (ts.length : Int) - 1 = m - ((ts.length + 1 : Nat) : Int)
        omega
    have pick : ∀ v5 : Int, 0 ≤ v5 → v5 < 2 → atI [V.str "friend", V.str "foe"] v5 = some (.str (kindS (decide (v5 = 1)))) := fun v5 h0 h1 => by
      have h01 : v5 = 0 ∨ v5 = 1 := by omega
      rcases h01 with e | e <;> subst e <;> rfl
    refine ⟨fun k σ' H' => ∃ (y4 y5 : Option V) (us : List V) (ts : List Tie), σ' = [some (.ref d), some (.int n), some (.int m), some (.ref L), y4, y5] ∧ W k us ts H', ⟨m.toNat, none, none, [], [], rfl, upd_same, .nil, fun t ht => by simp at ht, by simpa using m0, by simp; omega, hD.new nL, Kp.new nL⟩, ?_⟩
    rintro k σ' H1 ⟨y4, y5, us, ts, rfl, w1⟩
    obtain ⟨hL, hp, ok, hl, hk, D1, K1⟩ := id w1
    refine ⟨.int n, rfl, n, 1, rfl, rfl, _, rfl, ?_⟩
    refine ite2 (fun hn => ?_) (fun hn => ⟨.ref L, rfl, L, us, rfl, .inl ⟨SqL.of hL, fun b nb => exit _ us ts H1 w1 b nb⟩⟩)
    have hn : 1 < n := of_decide_eq_true hn
    refine ⟨.ref L, rfl, L, us, rfl, .inl (SqL.of hL), .int m, rfl, _, _, rfl, rfl, _, rfl, ?_⟩
    refine ite2 (fun hm => ?_) (fun hm => ⟨.ref L, rfl, L, us, rfl, .inl ⟨SqL.of hL, fun b nb => exit _ us ts H1 w1 b nb⟩⟩)
    have hm : (us.length : Int) < m := of_decide_eq_true hm
    have lu : us.length = ts.length := Paired.length hp
    refine ⟨fun σ' H' => ∃ k', k' < k ∧ ∃ (y4 y5 : Option V) (us : List V) (ts : List Tie), σ' = [some (.ref d), some (.int n), some (.int m), some (.ref L), y4, y5] ∧ W (k' : Nat) us ts H', fun _ _ h => h, ?_⟩
    refine ⟨.ref d, rfl, .int n, rfl, d, c, n, rfl, D1, by omega, by omega, fun v1 H2 a1 b1 D2 K2 => ?_⟩
    refine ⟨fun σ' H' => ∃ o2 : Int, σ' = [some (.ref d), some (.int n), some (.int m), some (.ref L), some (.int v1), some (.int o2)] ∧ TieOk n ⟨v1, o2, false⟩ ∧ W (m - ts.length) us ts H', ?_, ?_⟩
    · refine ⟨.int v1, rfl, v1, 1, rfl, rfl, .ref d, rfl, .int n, rfl, n, 1, rfl, rfl, d, c, n - 1, rfl, D2, by omega, by omega, fun v2 H3 a2 b2 D3 K3 => ⟨v1 + 1, v2, rfl, rfl, .int n, rfl, _, n, rfl, rfl, show (0 : Int) < n by omega, _, rfl, ⟨a1, b1, (mod_rng (by omega)).1, (mod_rng (by omega)).2, other_ne a1 b1 a2 b2⟩, ?_⟩⟩
      have K13 := K2.trans K3
      exact ⟨K13 _ _ hLd.1 hLd.2 hL, ties_tk ((K2.tk D1).trans (K3.tk D2)) hp, ok, hl, rfl, D3, K1.trans K13⟩
    rintro σ' H3 ⟨o2, rfl, okt, w3⟩
    refine ⟨fun σ' H' => ∃ (us : List V) (ts' : List Tie), σ' = [some (.ref d), some (.int n), some (.int m), some (.ref L), some (.int v1), some (.int o2)] ∧ ts'.length = ts.length + 1 ∧ W (m - ts'.length) us ts' H', ?_, ?_⟩
    · obtain ⟨hL3, hp3, ok3, hl3, _, D3, K3⟩ := id w3
      refine ⟨.ref L, rfl, .inl ⟨rfl, _, SqL.of hL3⟩, .int v1, rfl, .int o2, rfl, by show 2 ≤ sizeLine; decide, fun p np => ⟨.ref d, rfl, d, c, 2, rfl, D3.new np, by decide, by decide, fun v5 H5 a5 b5 D5 K5 => ?_⟩⟩
      refine ⟨p, _, v5, _, rfl, rfl, SqL.of (K5 p _ (D3.ned np).1 (D3.ned np).2 upd_same), pick v5 a5 b5, by show 3 ≤ sizeLine; decide, fun q2 nq => ?_⟩
      have K35 := (Kp.new (d := d) (c := c) np).trans K5
      have w5 : W (m - ts.length) us ts H5 := ⟨K35 _ _ hLd.1 hLd.2 hL3, ties_tk (K35.tk D3) hp3, ok3, hl3, rfl, D5, K3.trans K35⟩
      obtain ⟨z1, z2⟩ := more us ts H5 ⟨v1, o2, decide (v5 = 1)⟩ q2 w5 (by omega) okt nq
      refine ⟨L, us, _, rfl, rfl, same_new nq _ _ w5.1, z1, us ++ [.ref q2], ts ++ [⟨v1, o2, decide (v5 = 1)⟩], rfl, by simp, ?_⟩
      have e : m - (ts.length : Int) - 1 = m - ((ts ++ [(⟨v1, o2, decide (v5 = 1)⟩ : Tie)]).length : Nat) := by rw [List.length_append]; show _ = m - ((ts.length + 1 : Nat) : Int); omega
      rw [← e]
      exact z2
    rintro σ' H4 ⟨us4, ts4, rfl, l4, w4⟩
    obtain ⟨hL4, hp4, ok4, hl4, _, D4, K4⟩ := id w4
    refine ⟨.ref d, rfl, d, c, 4, rfl, D4, by decide, by decide, fun v6 H5 a6 b6 D5 K5 => ⟨rfl, _, rfl, ?_⟩⟩
    have w5 : W (m - ts4.length) us4 ts4 H5 := ⟨K5 _ _ hLd.1 hLd.2 hL4, ties_tk (K5.tk D4) hp4, ok4, hl4, rfl, D5, K4.trans K5⟩
    have out : ∃ k', k' < k ∧ W (k' : Nat) us4 ts4 H5 := ⟨(m - ts4.length).toNat, by omega, by rw [show (((m - ts4.length).toNat : Nat) : Int) = m - ts4.length from by omega]; exact w5⟩
    refine ite2 (fun _ => ?_) (fun _ => ?_)
    · refine ⟨.ref L, rfl, L, us4, rfl, .inl (SqL.of w5.1), .int m, rfl, _, _, rfl, rfl, _, rfl, ?_⟩
      refine ite2 (fun h7 => ?_) (fun _ => ?_)
      · have h7 : (us4.length : Int) < m := of_decide_eq_true h7
        have lu4 : us4.length = ts4.length := Paired.length hp4
        refine ⟨.ref L, rfl, .inl ⟨rfl, _, SqL.of w5.1⟩, .int o2, rfl, .int v1, rfl, by show 2 ≤ sizeLine; decide, fun p np => ⟨.ref d, rfl, d, c, 2, rfl, D5.new np, by decide, by decide, fun v7 H7 a7 b7 D7 K7 => ?_⟩⟩
        refine ⟨p, _, v7, _, rfl, rfl, SqL.of (K7 p _ (D5.ned np).1 (D5.ned np).2 upd_same), pick v7 a7 b7, by show 3 ≤ sizeLine; decide, fun q2 nq => ?_⟩
        have K57 := (Kp.new (d := d) (c := c) np).trans K7
        have w7 : W (m - ts4.length) us4 ts4 H7 := ⟨K57 _ _ hLd.1 hLd.2 w5.1, ties_tk (K57.tk D5) w5.2.1, ok4, hl4, rfl, D7, w5.2.2.2.2.2.2.trans K57⟩
        obtain ⟨z1, z2⟩ := more us4 ts4 H7 ⟨o2, v1, decide (v7 = 1)⟩ q2 w7 (by omega) ⟨okt.2.2.1, okt.2.2.2.1, okt.1, okt.2.1, Ne.symm okt.2.2.2.2⟩ nq
        refine ⟨L, us4, _, rfl, rfl, same_new nq _ _ w7.1, z1, (m - ts4.length - 1).toNat, by omega, _, _, us4 ++ [.ref q2], ts4 ++ [⟨o2, v1, decide (v7 = 1)⟩], rfl, ?_⟩
        rw [show (((m - ts4.length - 1).toNat : Nat) : Int) = m - ts4.length - 1 from by omega]
        exact z2
      · obtain ⟨k', h1, h2⟩ := out
        exact ⟨k', h1, _, _, us4, ts4, rfl, h2⟩
    · obtain ⟨k', h1, h2⟩ := out
      exact ⟨k', h1, _, _, us4, ts4, rfl, h2⟩
end
/-! ### least mends: the mathematics -/
def brkF (c : Int → Bool) (t : Tie) : Bool := (c t.one == c t.other) == t.foe
def badF (ts : List Tie) (c : Int → Bool) (es : List Int) : List Int := es.filter fun e => brkF c (tieAt ts e)
def tiesIn (ts : List Tie) (P : List Int) : List Int := (rng ts.length).filter fun e => decide ((tieAt ts e).one ∈ P)
abbrev WL := Int × List Int
def valF (ts : List Tie) (g : Int → Int) (c : Int → Bool) (es : List Int) : WL := (sumW g (badF ts c es), badF ts c es)
/-! the order of pairs of a number and a row of numbers -/
def ltL : List Int → List Int → Bool
  | [], [] => false
  | [], _ :: _ => true
  | _ :: _, [] => false
  | x :: xs, y :: ys => if x = y then ltL xs ys else decide (x < y)
def ltW (p q : WL) : Bool := if p.1 = q.1 then ltL p.2 q.2 else decide (p.1 < q.1)
theorem ltL_irr : ∀ xs : List Int, ltL xs xs = false
  | [] => rfl
  | x :: xs => by
    show (if x = x then ltL xs xs else decide (x < x)) = false
    rw [if_pos rfl]
    exact ltL_irr xs
theorem ltL_asym : ∀ xs ys : List Int, ltL xs ys = true → ltL ys xs = false
  | [], [], h => by cases h
  | [], _ :: _, _ => rfl
  | _ :: _, [], h => by cases h
  | x :: xs, y :: ys, h => by
    change (if x = y then ltL xs ys else decide (x < y)) = true at h
    show (if y = x then ltL ys xs else decide (y < x)) = false
    by_cases e : x = y
    · rw [if_pos e] at h
      rw [if_pos e.symm]
      exact ltL_asym xs ys h
    · rw [if_neg e] at h
      rw [if_neg (Ne.symm e)]
      have := of_decide_eq_true h
      exact decide_eq_false (by omega)
theorem ltL_trans : ∀ xs ys zs : List Int, ltL ys xs = false → ltL zs ys = false → ltL zs xs = false
  | xs, ys, [], h1, h2 => by
    cases xs with
    | nil => rfl
    | cons x xs =>
      cases ys with
      | nil => exact h1
      | cons y ys => cases h2
  | [], _, _ :: _, _, _ => rfl
  | x :: xs, [], z :: zs, h1, _ => by cases h1
  | x :: xs, y :: ys, z :: zs, h1, h2 => by
    change (if y = x then ltL ys xs else decide (y < x)) = false at h1
    change (if z = y then ltL zs ys else decide (z < y)) = false at h2
    show (if z = x then ltL zs xs else decide (z < x)) = false
    by_cases e1 : y = x
    · rw [if_pos e1] at h1
      by_cases e2 : z = y
      · rw [if_pos e2] at h2
        rw [if_pos (e2.trans e1)]
        exact ltL_trans xs ys zs h1 h2
      · rw [if_neg e2] at h2
        have := of_decide_eq_false h2
        rw [if_neg (by omega)]
        exact decide_eq_false (by omega)
    · rw [if_neg e1] at h1
      have h1 := of_decide_eq_false h1
      by_cases e2 : z = y
      · rw [if_neg (by omega)]
        exact decide_eq_false (by omega)
      · rw [if_neg e2] at h2
        have := of_decide_eq_false h2
        rw [if_neg (by omega)]
        exact decide_eq_false (by omega)
theorem ltL_tri : ∀ xs ys : List Int, ltL xs ys = false → ltL ys xs = false → xs = ys
  | [], [], _, _ => rfl
  | [], _ :: _, h, _ => by cases h
  | _ :: _, [], _, h => by cases h
  | x :: xs, y :: ys, h, g => by
    change (if x = y then ltL xs ys else decide (x < y)) = false at h
    change (if y = x then ltL ys xs else decide (y < x)) = false at g
    by_cases e : x = y
    · rw [if_pos e] at h
      rw [if_pos e.symm] at g
      rw [e, ltL_tri xs ys h g]
    · rw [if_neg e] at h
      rw [if_neg (Ne.symm e)] at g
      have := of_decide_eq_false h
      have := of_decide_eq_false g
      omega
theorem ltW_asym {p q : WL} (h : ltW p q = true) : ltW q p = false := by
  unfold ltW at *
  by_cases e : p.1 = q.1
  · rw [if_pos e] at h
    rw [if_pos e.symm]
    exact ltL_asym _ _ h
  · rw [if_neg e] at h
    rw [if_neg (Ne.symm e)]
    have := of_decide_eq_true h
    exact decide_eq_false (by omega)
theorem ltW_trans {p q r : WL} (h : ltW q p = false) (g : ltW r q = false) : ltW r p = false := by
  unfold ltW at *
  by_cases e1 : q.1 = p.1
  · rw [if_pos e1] at h
    by_cases e2 : r.1 = q.1
    · rw [if_pos e2] at g
      rw [if_pos (e2.trans e1)]
      exact ltL_trans _ _ _ h g
    · rw [if_neg e2] at g
      have := of_decide_eq_false g
      rw [if_neg (by omega)]
      exact decide_eq_false (by omega)
  · rw [if_neg e1] at h
    have := of_decide_eq_false h
    by_cases e2 : r.1 = q.1
    · rw [if_neg (by omega)]
      exact decide_eq_false (by omega)
    · rw [if_neg e2] at g
      have := of_decide_eq_false g
      rw [if_neg (by omega)]
      exact decide_eq_false (by omega)
theorem ltW_tri {p q : WL} (h : ltW p q = false) (g : ltW q p = false) : p = q := by
  unfold ltW at *
  by_cases e : p.1 = q.1
  · rw [if_pos e] at h
    rw [if_pos e.symm] at g
    exact Prod.ext e (ltL_tri _ _ h g)
  · rw [if_neg e] at h
    rw [if_neg (Ne.symm e)] at g
    have := of_decide_eq_false h
    have := of_decide_eq_false g
    omega
theorem ltW_fst {p q : WL} (h : ltW q p = false) : p.1 ≤ q.1 := by
  unfold ltW at h
  by_cases e : q.1 = p.1
  · omega
  · rw [if_neg e] at h
    have := of_decide_eq_false h
    omega
/-! the least of a part -/
structure LexMin (ts : List Tie) (g : Int → Int) (es : List Int) (x : WL) : Prop where
  ex : ∃ c, x = valF ts g c es
  le : ∀ c, ltW (valF ts g c es) x = false
theorem LexMin.one {ts : List Tie} {g : Int → Int} {es : List Int} {x y : WL} (h : LexMin ts g es x) (k : LexMin ts g es y) : x = y := by
  obtain ⟨c, ec⟩ := h.ex
  obtain ⟨d, ed⟩ := k.ex
  have h1 := h.le d
  rw [← ed] at h1
  have h2 := k.le c
  rw [← ec] at h2
  exact ltW_tri h2 h1
structure LeastV (ts : List Tie) (g : Int → Int) (es : List Int) (v : Int) : Prop where
  ex : ∃ c, v = sumW g (badF ts c es)
  le : ∀ c, v ≤ sumW g (badF ts c es)
theorem LexMin.val {ts : List Tie} {g : Int → Int} {es : List Int} {x : WL} (h : LexMin ts g es x) : LeastV ts g es x.1 := by
  obtain ⟨c, ec⟩ := h.ex
  exact ⟨⟨c, by rw [ec]; rfl⟩, fun d => ltW_fst (h.le d)⟩
theorem LeastV.one {ts : List Tie} {g : Int → Int} {es : List Int} {v w : Int} (h : LeastV ts g es v) (k : LeastV ts g es w) : v = w := by
  obtain ⟨c, ec⟩ := h.ex
  obtain ⟨d, ed⟩ := k.ex
  have := h.le d
  have := k.le c
  omega
theorem badF_flip (ts : List Tie) (c : Int → Bool) (es : List Int) : badF ts (fun p => !c p) es = badF ts c es := by
  unfold badF
  refine List.filter_congr fun e _ => ?_
  unfold brkF
  show (((!c (tieAt ts e).one) == (!c (tieAt ts e).other)) == (tieAt ts e).foe) = ((c (tieAt ts e).one == c (tieAt ts e).other) == (tieAt ts e).foe)
  cases c (tieAt ts e).one <;> cases c (tieAt ts e).other <;> rfl
theorem badF_congr {ts : List Tie} {c d : Int → Bool} {es P : List Int} (h : ∀ e ∈ es, (tieAt ts e).one ∈ P ∧ (tieAt ts e).other ∈ P) (k : ∀ p ∈ P, c p = d p) : badF ts c es = badF ts d es := by
  unfold badF
  refine List.filter_congr fun e he => ?_
  unfold brkF
  rw [k _ (h e he).1, k _ (h e he).2]
theorem sumW_nonneg {g : Int → Int} : ∀ {es : List Int}, (∀ e ∈ es, 1 ≤ g e) → (es.length : Int) ≤ sumW g es
  | [], _ => Int.le_refl _
  | e :: es, h => by
    have ih := sumW_nonneg (g := g) (es := es) fun x hx => h x (List.mem_cons_of_mem _ hx)
    have := h e List.mem_cons_self
    unfold sumW at ih ⊢
    rw [List.map_cons, List.sum_cons, List.length_cons]
    omega
theorem LexMin.zero {ts : List Tie} {g : Int → Int} {es : List Int} (gp : ∀ e ∈ es, 1 ≤ g e) {c : Int → Bool} (h : badF ts c es = []) : LexMin ts g es (0, []) := by
  refine ⟨⟨c, by unfold valF; rw [h]; rfl⟩, fun d => ?_⟩
  have n := sumW_nonneg (g := g) (es := badF ts d es) fun e he => gp e (List.mem_filter.mp he).1
  unfold ltW valF
  by_cases e : sumW g (badF ts d es) = 0
  · rw [if_pos e]
    have : (badF ts d es).length = 0 := by omega
    rw [List.length_eq_zero_iff.mp this]
    rfl
  · rw [if_neg e]
    exact decide_eq_false (show ¬ sumW g (badF ts d es) < 0 by omega)
/-! parts -/
structure Parts (ts : List Tie) (n : Nat) (Ps : List (List Int)) : Prop where
  cl : ∀ P ∈ Ps, ∀ t ∈ ts, t.one ∈ P ↔ t.other ∈ P
  dis : Ps.Pairwise fun P Q => ∀ p ∈ P, p ∉ Q
  cov : ∀ p : Int, 0 ≤ p → p < n → ∃ P ∈ Ps, p ∈ P
theorem parts_of_web {ts : List Tie} {n : Nat} (ok : ∀ t ∈ ts, TieOk n t) : Parts ts n (partsTo ts n n) := by
  refine ⟨fun P hP t ht => ?_, ?_, fun p h0 h1 => ?_⟩
  · obtain ⟨s, hs, rfl⟩ := List.mem_map.mp hP
    have o := ok t ht
    rw [mem_part, mem_part]
    have ad : Adj ts t.one t.other t.foe := ⟨t, ht, rfl, .inl ⟨rfl, rfl⟩⟩
    constructor
    · intro h
      exact ⟨⟨o.2.2.1, o.2.2.2.1⟩, h.2.trans (Rch.adj ad)⟩
    · intro h
      exact ⟨⟨o.1, o.2.1⟩, h.2.trans (Rch.adj ad).symm⟩
  · unfold partsTo
    rw [List.pairwise_map]
    have nd : ((rng n).filter fun s => @decide (leader ts s) (Classical.propDecidable _)).Pairwise (· < ·) := (rng_rising n).filter _
    refine nd.imp_of_mem fun {a b} ha hb lt p hp hq => ?_
    have la : leader ts a := by simpa using (List.mem_filter.mp ha).2
    have lb : leader ts b := by simpa using (List.mem_filter.mp hb).2
    rw [mem_part] at hp hq
    have := lb a (hq.2.trans hp.2.symm)
    omega
  · obtain ⟨m, hm, hr, hc⟩ := has_leader ok ⟨h0, h1⟩
    refine ⟨partOf ts n m, List.mem_map.mpr ⟨m, List.mem_filter.mpr ⟨mem_rng.mpr hr, @decide_eq_true _ (_) hm⟩, rfl⟩, mem_part.mpr ⟨⟨h0, h1⟩, hc⟩⟩
theorem tiesIn_mem {ts : List Tie} {P : List Int} {e : Int} : e ∈ tiesIn ts P ↔ (0 ≤ e ∧ e < (ts.length : Int)) ∧ (tieAt ts e).one ∈ P := by
  unfold tiesIn
  rw [List.mem_filter, mem_rng, decide_eq_true_iff]
theorem tiesIn_cl {ts : List Tie} {n : Nat} {Ps : List (List Int)} (h : Parts ts n Ps) {P : List Int} (hP : P ∈ Ps) : ∀ e ∈ tiesIn ts P, (tieAt ts e).one ∈ P ∧ (tieAt ts e).other ∈ P := fun e he => by
  have he := tiesIn_mem.mp he
  exact ⟨he.2, (h.cl P hP _ (tieAt_mem (mem_rng.mpr he.1))).mp he.2⟩
theorem lex_all {ts : List Tie} {g : Int → Int} : ∀ {Ps : List (List Int)} {xs : List WL}, (∀ P ∈ Ps, ∀ e ∈ tiesIn ts P, (tieAt ts e).one ∈ P ∧ (tieAt ts e).other ∈ P) → Ps.Pairwise (fun P Q => ∀ p ∈ P, p ∉ Q) → Paired (fun P x => LexMin ts g (tiesIn ts P) x) Ps xs → ∃ c, Paired (fun P x => x = valF ts g c (tiesIn ts P)) Ps xs
  | _, _, _, _, .nil => ⟨fun _ => false, .nil⟩
  | P :: Ps, x :: xs, cl, dis, .cons h t => by
    have dis := List.pairwise_cons.mp dis
    obtain ⟨c, hc⟩ := lex_all (fun Q hQ => cl Q (List.mem_cons_of_mem _ hQ)) dis.2 t
    obtain ⟨d, hd⟩ := h.ex
    refine ⟨fun p => if p ∈ P then d p else c p, .cons ?_ ?_⟩
    · rw [hd]
      unfold valF
      rw [badF_congr (cl P List.mem_cons_self) (c := d) (d := fun p => if p ∈ P then d p else c p) fun p hp => (if_pos hp).symm]
    · have key : ∀ {Qs : List (List Int)} {ys : List WL}, (∀ Q ∈ Qs, (∀ p ∈ P, p ∉ Q) ∧ ∀ e ∈ tiesIn ts Q, (tieAt ts e).one ∈ Q ∧ (tieAt ts e).other ∈ Q) → Paired (fun P x => x = valF ts g c (tiesIn ts P)) Qs ys → Paired (fun Q x => x = valF ts g (fun p => if p ∈ P then d p else c p) (tiesIn ts Q)) Qs ys := by
        intro Qs ys hq hp
        induction hp with
        | nil => exact .nil
        | @cons Q y Qs ys h t ih =>
          refine .cons ?_ (ih fun R hR => hq R (List.mem_cons_of_mem _ hR))
          have hQ := hq Q List.mem_cons_self
          rw [h]
          unfold valF
          rw [badF_congr hQ.2 (c := c) (d := fun p => if p ∈ P then d p else c p) fun p hp => (if_neg fun z => hQ.1 p z hp).symm]
      exact key (fun Q hQ => ⟨dis.1 Q hQ, cl Q (List.mem_cons_of_mem _ hQ)⟩) hc
theorem sumW_app (g : Int → Int) (xs ys : List Int) : sumW g (xs ++ ys) = sumW g xs + sumW g ys := by
  unfold sumW
  rw [List.map_append, List.sum_append]
theorem sumW_perm {g : Int → Int} {xs ys : List Int} (h : xs.Perm ys) : sumW g xs = sumW g ys := by
  unfold sumW
  have : ∀ {xs ys : List Int}, xs.Perm ys → xs.sum = ys.sum := fun h => by
    induction h with
    | nil => rfl
    | cons x _ ih => rw [List.sum_cons, List.sum_cons, ih]
    | swap x y l => simp only [List.sum_cons]; omega
    | trans _ _ i j => exact i.trans j
  exact this (h.map g)
theorem bad_perm {ts : List Tie} {n : Nat} {Ps : List (List Int)} (h : Parts ts n Ps) (ok : ∀ t ∈ ts, TieOk n t) (c : Int → Bool) : (badF ts c (rng ts.length)).Perm (Ps.flatMap fun P => badF ts c (tiesIn ts P)) := by
  have nd1 : (badF ts c (rng ts.length)).Nodup := ((rng_rising ts.length).imp fun {a b} z => by omega).filter _
  have nd2 : (Ps.flatMap fun P => badF ts c (tiesIn ts P)).Nodup := by
    refine List.pairwise_flatMap.mpr ⟨fun P _ => (((rng_rising ts.length).imp fun {a b} z => by omega).filter _).filter _, ?_⟩
    refine h.dis.imp fun {P Q} hpq e he e' hq z => ?_
    subst z
    have h1 := (tiesIn_mem.mp (List.mem_filter.mp he).1).2
    have h2 := (tiesIn_mem.mp (List.mem_filter.mp hq).1).2
    exact hpq _ h1 h2
  refine (List.perm_ext_iff_of_nodup nd1 nd2).mpr fun e => ?_
  rw [List.mem_flatMap]
  constructor
  · intro he
    have he := List.mem_filter.mp he
    have hr := mem_rng.mp he.1
    have o := ok _ (tieAt_mem he.1)
    obtain ⟨P, hP, hp⟩ := h.cov (tieAt ts e).one o.1 o.2.1
    exact ⟨P, hP, List.mem_filter.mpr ⟨tiesIn_mem.mpr ⟨hr, hp⟩, he.2⟩⟩
  · rintro ⟨P, hP, he⟩
    have he := List.mem_filter.mp he
    exact List.mem_filter.mpr ⟨mem_rng.mpr (tiesIn_mem.mp he.1).1, he.2⟩
theorem flat_vals {ts : List Tie} {g : Int → Int} {c : Int → Bool} : ∀ {Ps : List (List Int)} {xs : List WL}, Paired (fun P x => x = valF ts g c (tiesIn ts P)) Ps xs → xs.flatMap (·.2) = Ps.flatMap (fun P => badF ts c (tiesIn ts P)) ∧ (xs.map (·.1)).sum = sumW g (Ps.flatMap fun P => badF ts c (tiesIn ts P))
  | _, _, .nil => ⟨rfl, rfl⟩
  | P :: Ps, x :: xs, .cons h t => by
    obtain ⟨i1, i2⟩ := flat_vals t
    refine ⟨by rw [List.flatMap_cons, List.flatMap_cons, i1, h]; rfl, ?_⟩
    rw [List.map_cons, List.sum_cons, List.flatMap_cons, sumW_app, i2, h]
    rfl
/-- what is told of the least -/
structure ToldL (ts : List Tie) (n : Nat) (g : Int → Int) (xs : List WL) (c : Int → Bool) : Prop where
  lex : Paired (fun P x => LexMin ts g (tiesIn ts P) x) (partsTo ts n n) xs
  perm : (xs.flatMap (·.2)).Perm (badF ts c (rng ts.length))
  sum : (xs.map (·.1)).sum = sumW g (badF ts c (rng ts.length))
  le : ∀ d, sumW g (badF ts c (rng ts.length)) ≤ sumW g (badF ts d (rng ts.length))
theorem sum_le_sum {ts : List Tie} {g : Int → Int} {d : Int → Bool} : ∀ {Ps : List (List Int)} {xs : List WL}, Paired (fun P x => LexMin ts g (tiesIn ts P) x) Ps xs → (xs.map (·.1)).sum ≤ sumW g (Ps.flatMap fun P => badF ts d (tiesIn ts P))
  | _, _, .nil => Int.le_refl _
  | P :: Ps, x :: xs, .cons h t => by
    have ih := sum_le_sum (d := d) t
    have := h.val.le d
    rw [List.map_cons, List.sum_cons, List.flatMap_cons, sumW_app]
    omega
theorem told_of_lex {ts : List Tie} {n : Nat} {g : Int → Int} {xs : List WL} (ok : ∀ t ∈ ts, TieOk n t) (h : Paired (fun P x => LexMin ts g (tiesIn ts P) x) (partsTo ts n n) xs) : ∃ c, ToldL ts n g xs c := by
  have pt := parts_of_web ok
  obtain ⟨c, hc⟩ := lex_all (fun P hP => tiesIn_cl pt hP) pt.dis h
  obtain ⟨f1, f2⟩ := flat_vals hc
  have pm := bad_perm pt ok c
  refine ⟨c, h, by rw [f1]; exact pm.symm, by rw [f2]; exact (sumW_perm pm).symm, fun d => ?_⟩
  rw [sumW_perm pm, ← f2, sumW_perm (bad_perm pt ok d)]
  exact sum_le_sum h
theorem lex_one {ts : List Tie} {g : Int → Int} : ∀ {Ps : List (List Int)} {xs ys : List WL}, Paired (fun P x => LexMin ts g (tiesIn ts P) x) Ps xs → Paired (fun P x => LexMin ts g (tiesIn ts P) x) Ps ys → xs = ys
  | _, _, _, .nil, .nil => rfl
  | _, _, _, .cons h t, .cons k u => by rw [h.one k, lex_one t u]
theorem vals_one {ts : List Tie} {g : Int → Int} : ∀ {Ps : List (List Int)} {xs : List WL} {vs : List Int}, Paired (fun P x => LexMin ts g (tiesIn ts P) x) Ps xs → Paired (fun P v => LeastV ts g (tiesIn ts P) v) Ps vs → vs = xs.map (·.1)
  | _, _, _, .nil, .nil => rfl
  | _, _, _, .cons h t, .cons k u => by
    have e := k.one h.val
    rw [vals_one t u, e]
    rfl
theorem lex_fill {ts : List Tie} {g : Int → Int} {f : List Int → Bool} : ∀ {Ps : List (List Int)} {ys : List WL}, (∀ P ∈ Ps, f P = false → LexMin ts g (tiesIn ts P) (0, [])) → Paired (fun P x => LexMin ts g (tiesIn ts P) x) (Ps.filter f) ys → ∃ xs, Paired (fun P x => LexMin ts g (tiesIn ts P) x) Ps xs ∧ xs.flatMap (·.2) = ys.flatMap (·.2)
  | [], _, _, .nil => ⟨[], .nil, rfl⟩
  | P :: Ps, ys, hz, h => by
    cases hf : f P with
    | false =>
      rw [List.filter_cons_of_neg (by rw [hf]; exact Bool.false_ne_true)] at h
      obtain ⟨xs, h1, h2⟩ := lex_fill (fun Q hQ => hz Q (List.mem_cons_of_mem _ hQ)) h
      exact ⟨(0, []) :: xs, .cons (hz P List.mem_cons_self hf) h1, by rw [List.flatMap_cons, h2]; rfl⟩
    | true =>
      rw [List.filter_cons_of_pos hf] at h
      cases h with
      | @cons _ y _ ys h0 t =>
        obtain ⟨xs, h1, h2⟩ := lex_fill (fun Q hQ => hz Q (List.mem_cons_of_mem _ hQ)) t
        exact ⟨y :: xs, .cons h0 h1, by rw [List.flatMap_cons, List.flatMap_cons, h2]⟩
/-! two sides, and odd rings -/
theorem walk_brk {c : Int → Bool} {ts : List Tie} (h : ∀ t ∈ ts, brkF c t = false) {x y : Int} {p : Bool} (r : RP ts x y p) : (c x ^^ c y) = p := by
  have one : ∀ {a b : Int} {k : Bool}, Adj ts a b k → (c a ^^ c b) = k := fun {a b k} ad => by
    obtain ⟨t, ht, rfl, e⟩ := ad
    have hb := h t ht
    unfold brkF at hb
    rcases e with ⟨rfl, rfl⟩ | ⟨rfl, rfl⟩ <;> revert hb <;> cases c t.one <;> cases c t.other <;> cases t.foe <;> decide
  induction r with
  | nil => cases c x <;> rfl
  | step r ad ih =>
    have := one ad
    rw [← ih, ← this]
    rename_i b _ _ _
    cases c x <;> cases c b <;> cases c _ <;> rfl
theorem brk_no_odd {c : Int → Bool} {ts : List Tie} {n : Nat} (h : ∀ t ∈ ts, brkF c t = false) : ¬ Odd ts n := fun ⟨x, _, r⟩ => by
  have := walk_brk h r
  cases hc : c x <;> rw [hc] at this <;> cases this
open Classical in
theorem no_odd_brk {ts : List Tie} {n : Nat} (ok : ∀ t ∈ ts, TieOk n t) (h : ¬ Odd ts n) : ∃ c : Int → Bool, ∀ t ∈ ts, brkF c t = false := by
  refine ⟨fun x => decide (∃ m, leader ts m ∧ (0 ≤ m ∧ m < n) ∧ RP ts m x true), fun t ht => ?_⟩
  have o := ok t ht
  obtain ⟨m, hm, hr, p, hp⟩ := has_leader ok ⟨o.1, o.2.1⟩
  have ad : Adj ts t.one t.other t.foe := ⟨t, ht, rfl, .inl ⟨rfl, rfl⟩⟩
  have hq := hp.step ad
  have val : ∀ {x : Int} {p : Bool}, RP ts m x p → decide (∃ m, leader ts m ∧ (0 ≤ m ∧ m < (n : Int)) ∧ RP ts m x true) = p := fun {x p} r => by
    cases p with
    | true => exact decide_eq_true ⟨m, hm, hr, r⟩
    | false =>
      refine decide_eq_false fun ⟨m', hm', hr', r'⟩ => ?_
      have e : m = m' := leader_one hm hm' ⟨_, r⟩ ⟨_, r'⟩
      subst e
      have := r'.trans r.symm
      exact h ⟨m, hr, this⟩
  unfold brkF
  dsimp only
  rw [val hp, val hq]
  cases p <;> cases t.foe <;> rfl
/-! ### least mends: the parts in which there is an odd ring -/
theorem Kt.mutN {Ps : List Addr} {H H' : Hp} {a : Addr} {o : HO} (k : Kt Ps H H') (t : Tabs Ps H) (n : H a = none) : Kt Ps H (upd H' a o) := by
  have na : a ∉ Ps := fun z => by
    obtain ⟨ps, e, _⟩ := t a z
    rw [n] at e
    cases e
  refine ⟨fun P hP => ?_, fun b o' hb e => ?_⟩
  · obtain ⟨ps, e, t'⟩ := k.tab P hP
    exact ⟨ps, by rw [upd_ne (show P ≠ a from fun z => na (z ▸ hP))]; exact e, t'⟩
  · rw [upd_ne (fun z => by rw [z, n] at e; cases e)]
    exact k.keep b o' hb e
theorem NbV.kp {H H' : Hp} (k : ∀ b o, (∃ xs, o = .lst xs ∨ o = .tup xs) → H b = some o → H' b = some o) {v : V} {p : Nb} (h : NbV H v p) : NbV H' v p := by
  obtain ⟨a, e, h1⟩ := h
  exact ⟨a, e, k _ _ ⟨_, .inr rfl⟩ h1⟩
theorem AroundAt.kp {H H' : Hp} {v : V} {n : Int} {ts : List Tie} (h : AroundAt H v n ts) (k : ∀ b o, (∃ xs, o = .lst xs ∨ o = .tup xs) → H b = some o → H' b = some o) : AroundAt H' v n ts := by
  obtain ⟨L, As, e, l, A⟩ := h
  exact ⟨L, As, e, l, k _ _ ⟨_, .inl rfl⟩ A.at', A.nd, fun j a e => by
    obtain ⟨vs, h1, h2⟩ := A.each j a e
    exact ⟨vs, k _ _ ⟨_, .inl rfl⟩ h1, Paired.mono (fun _ _ x => x.kp k) h2⟩, A.out⟩
/-- lists and tuples stay -/
def KLT (H H' : Hp) : Prop := ∀ b o, (∃ xs, o = .lst xs ∨ o = .tup xs) → H b = some o → H' b = some o
theorem KLT.same {H H1 H2 : Hp} (k : KLT H H1) (s : Same H1 H2) : KLT H H2 := fun b o h e => s b o (k b o h e)
theorem KLT.kt {Ps : List Addr} {H H1 H2 : Hp} (k : KLT H H1) (s : Kt Ps H1 H2) (t : Tabs Ps H1) : KLT H H2 := fun b o h e => by
  obtain ⟨xs, h | h⟩ := h
  · rw [h] at e ⊢
    exact s.lst t (k b _ ⟨xs, .inl rfl⟩ e)
  · rw [h] at e ⊢
    exact s.tup t (k b _ ⟨xs, .inr rfl⟩ e)
theorem KLT.mut {H H1 : Hp} {l : Addr} {o : HO} (k : KLT H H1) (n : H l = none) : KLT H (upd H1 l o) := fun b o' h e => by
  rw [upd_ne (ne_of_none e n)]
  exact k b o' h e
theorem ps_never {X : Cx} {st : Stmt} : PS X st (fun _ _ _ => False) := ⟨fun _ _ _ _ _ _ h => h.elim⟩
def oddP (ts : List Tie) (P : List Int) : Prop := ¬ ∃ c, badF ts c (tiesIn ts P) = []
theorem part_is {ts : List Tie} {n : Nat} {P : List Int} (h : P ∈ partsTo ts n n) : ∃ s, (0 ≤ s ∧ s < (n : Int)) ∧ P = partOf ts n s := by
  obtain ⟨s, hs, rfl⟩ := List.mem_map.mp h
  exact ⟨s, mem_rng.mp (List.mem_filter.mp hs).1, rfl⟩
theorem part_rch {ts : List Tie} {n : Nat} {P : List Int} (h : P ∈ partsTo ts n n) {x y : Int} (hx : x ∈ P) (hy : y ∈ P) : Rch ts x y := by
  obtain ⟨s, _, rfl⟩ := part_is h
  exact (mem_part.mp hx).2.symm.trans (mem_part.mp hy).2
theorem part_ne {ts : List Tie} {n : Nat} {P : List Int} (h : P ∈ partsTo ts n n) : P ≠ [] := fun z => by
  obtain ⟨s, hs, e⟩ := part_is h
  have : s ∈ partOf ts n s := mem_part.mpr ⟨hs, Rch.refl⟩
  rw [← e, z] at this
  cases this
theorem part_rng {ts : List Tie} {n : Nat} {P : List Int} (h : P ∈ partsTo ts n n) : ∀ p ∈ P, 0 ≤ p ∧ p < (n : Int) := fun p hp => by
  obtain ⟨s, _, rfl⟩ := part_is h
  exact (mem_part.mp hp).1
theorem part_pw {ts : List Tie} {n : Nat} {P : List Int} (h : P ∈ partsTo ts n n) : P.Pairwise (· < ·) := by
  obtain ⟨s, _, rfl⟩ := part_is h
  exact part_rising ts n s
theorem none_in {ts : List Tie} {P : List Int} {c : Int → Bool} (h : badF ts c (tiesIn ts P) = []) : ∀ t ∈ ts, t.one ∈ P → brkF c t = false := fun t ht hp => by
  obtain ⟨i, hi⟩ := List.getElem?_of_mem ht
  have il := (List.getElem?_eq_some_iff.mp hi).1
  have et := tieAt_of hi
  cases hb : brkF c t with
  | false => rfl
  | true =>
    have : (i : Int) ∈ badF ts c (tiesIn ts P) := List.mem_filter.mpr ⟨tiesIn_mem.mpr ⟨⟨by omega, by omega⟩, by rw [et]; exact hp⟩, by rw [et]; exact hb⟩
    rw [h] at this
    cases this
theorem walk_in {ts : List Tie} {P : List Int} {c : Int → Bool} (cl : ∀ t ∈ ts, t.one ∈ P ↔ t.other ∈ P) (h : ∀ t ∈ ts, t.one ∈ P → brkF c t = false) {x y : Int} {p : Bool} (r : RP ts x y p) (hx : x ∈ P) : (c x ^^ c y) = p ∧ y ∈ P := by
  induction r with
  | nil => exact ⟨by cases c x <;> rfl, hx⟩
  | step r ad ih =>
    obtain ⟨i1, i2⟩ := ih
    obtain ⟨t, ht, rfl, e⟩ := ad
    rcases e with ⟨rfl, rfl⟩ | ⟨rfl, rfl⟩
    · have hb := h t ht i2
      refine ⟨?_, (cl t ht).mp i2⟩
      rw [← i1]
      unfold brkF at hb
      revert hb
      cases c x <;> cases c t.one <;> cases c t.other <;> cases t.foe <;> decide
    · have h1 := (cl t ht).mpr i2
      have hb := h t ht h1
      refine ⟨?_, h1⟩
      rw [← i1]
      unfold brkF at hb
      revert hb
      cases c x <;> cases c t.one <;> cases c t.other <;> cases t.foe <;> decide
/-- a part and its ties, as they lie in the heap -/
def RowQ (H : Hp) (ts : List Tie) (v : V) (P : List Int) : Prop := ∃ a p t, v = .ref a ∧ H a = some (.tup [.ref p, .ref t]) ∧ NoD H p (P.map V.int) ∧ H t = some (.tup ((tiesIn ts P).map V.int))
theorem RowQ.tk {H H' : Hp} (k : Tk H H') {ts : List Tie} {v : V} {P : List Int} (h : RowQ H ts v P) : RowQ H' ts v P := by
  obtain ⟨a, p, t, e, h1, h2, h3⟩ := h
  exact ⟨a, p, t, e, k _ _ h1, h2.tk k, k _ _ h3⟩
theorem rowsQ_tk {H H' : Hp} (k : Tk H H') {ts : List Tie} {vs : List V} {Ps : List (List Int)} (h : Paired (RowQ H ts) vs Ps) : Paired (RowQ H' ts) vs Ps := Paired.mono (fun _ _ x => x.tk k) h
open Classical in
noncomputable def oddF (ts : List Tie) (P : List Int) : Bool := decide (oddP ts P)
theorem sideI_eq (x y : Bool) : decide (sideI x = sideI y) = (x == y) := by cases x <;> cases y <;> rfl
def spBreaksD : Sp := fun vs H Q _ => ∃ (a b : Addr) (ks : List Nb) (t : Tie) (x y : Bool), vs = [.ref a, .ref b] ∧ H a = some (.dK (kvOf ks)) ∧ (ks.map (·.1)).Nodup ∧ (t.one, x) ∈ ks ∧ (t.other, y) ∈ ks ∧ H b = some (.tup [.int t.one, .int t.other, .str (kindS t.foe)]) ∧ Q (.bl ((x == y) == t.foe)) H
def spTiesWithin : Sp := fun vs H Q _ => ∃ (wv : V) (p : Addr) (n : Int) (ts : List Tie) (P : List Int), vs = [wv, .ref p] ∧ WebAt H wv n ts ∧ WebOk n ts ∧ NoD H p (P.map V.int) ∧ ∀ r H', Same H H' → H' r = some (.tup ((tiesIn ts P).map V.int)) → Q (.ref r) H'
def spOddParts (Ps : List Addr) : Sp := fun vs H Q _ => ∃ (wv : V) (n : Nat) (ts : List Tie), vs = [wv] ∧ WebAt H wv n ts ∧ WebOk n ts ∧ Tabs Ps H ∧
  ∀ L rows H', Kt Ps H H' → H L = none → H' L = some (.lst rows) → Paired (RowQ H' ts) rows ((partsTo ts n n).filter (oddF ts)) → Q (.ref L) H'
/-- where no part with an odd ring is great: never refused -/
def spSmallOdd (Ps : List Addr) : Sp := fun vs H Q _ => ∃ (wv : V) (n : Nat) (ts : List Tie), vs = [wv] ∧ WebAt H wv n ts ∧ WebOk n ts ∧ (∀ P ∈ partsTo ts n n, oddF ts P = true → P.length ≤ 8) ∧ Tabs Ps H ∧
  ∀ L rows H', Kt Ps H H' → H L = none → H' L = some (.lst rows) → Paired (RowQ H' ts) rows ((partsTo ts n n).filter (oddF ts)) → Q (.ref L) H'
def tiesTo (ts : List Tie) (P : List Int) (k : Nat) : List Int := (rng k).filter fun e => decide ((tieAt ts e).one ∈ P)
theorem tiesTo_succ (ts : List Tie) (P : List Int) (k : Nat) : tiesTo ts P (k + 1) = tiesTo ts P k ++ (if (tieAt ts k).one ∈ P then [(k : Int)] else []) := by
  unfold tiesTo
  rw [rng_succ, List.filter_append]
  congr 1
  by_cases h : (tieAt ts (k : Int)).one ∈ P
  · rw [if_pos h, List.filter_cons_of_pos (by exact decide_eq_true h)]
    rfl
  · rw [if_neg h, List.filter_cons_of_neg (by simpa using h)]
    rfl
theorem tiesTo_len (ts : List Tie) (P : List Int) (k : Nat) : (tiesTo ts P k).length ≤ k := by
  have := List.length_filter_le (fun e => decide ((tieAt ts e).one ∈ P)) (rng k)
  rw [rng_length] at this
  exact this
theorem tiesIn_len (ts : List Tie) (P : List Int) : (tiesIn ts P).length ≤ ts.length := tiesTo_len ts P ts.length
section
variable {P : Program} {w : World} {K : PySem.W.Frag} {mg : Str → Option Value} {base : Heap}
set_option maxHeartbeats 4000000 in
theorem ok_ties_within {f : Addr} {fd : FuncData} (F : Fun K "ties_within" "ties_within" s_ties_within f fd) (M : Free mg) (m_enumerate : mg "enumerate" = none) : FnOk P w K mg base CX0 1 f fd ["web", "part"] spTiesWithin := by
  refine F.ok sc_ties_within (fun vs H Q E h => ?_) (fun cdv A outer s H vs Q E hr h => ?_)
  · obtain ⟨wv, p, n, ts, P, rfl, _⟩ := h
    rfl
  · obtain ⟨wv, p, n, ts, P, rfl, hW, ok, hp0, q⟩ := h
    refine ⟨_, (pss_one (ps_ret (pe_callTy call_tuple_of (by rfl) M.tuple (by decide +kernel) (pa_cons (pe_lc (own := [("number", 2), ("tie", 3)]) (g := (gTup K 2 (gCons (gName 2) (gCons (gName 3) gNil)))) (te := tVar 2) rfl sc_ties_within.nd (pi_enumT (by rfl) m_enumerate (pa_cons (pe_ix ix_tup (pv 0) pe_int (fun _ _ => rfl)) pa_nil)) (blkOk_by (N := N_ties_within) (sc := defScope s_ties_within) (own := [("number", 2), ("tie", 3)]) (by decide +kernel)) (fun _ _ _ _ _ => (pg_tup rfl (pgs_cons (pg_name (i := 2) sc_ties_within.nd rfl (.inl rfl)) (pgs_cons (pg_name (i := 3) sc_ties_within.nd rfl (.inl rfl)) pgs_nil)))) (fun _ _ _ _ _ => (pts_one (pt_cmpR (r := rIn K false) op_in_seq (pe_ix (r := rIxT K) ix_tup (pv 3) pe_int (fun _ _ => rfl)) (pv 1) rfl))) (fun _ _ _ _ _ => (pv 2))) pa_nil)))), ?_⟩
    obtain ⟨wa, wb, us, rfl, hwa, hwb, hp⟩ := hW
    have hlen : us.length = ts.length := Paired.length hp
    have few := ok.few
    refine ⟨.ref wa, rfl, wa, _, 1, .ref wb, rfl, rfl, SqT.of hwa, rfl, wb, us, rfl, SqT.of hwb, fun Z nZ => ?_⟩
    refine lc_it (walk_enumT (xs := us)) (fun i H' => H' Z = some (.lst ((tiesTo ts P i).map V.int)) ∧ Same H H') ⟨upd_same, same_new nZ⟩ (fun i H' _ h => SqT.of (h.2 _ _ hwb)) ?_ ?_
    · rintro i x H1 H2 hi ⟨hZ, s1⟩ ⟨T, x1, y, rfl, nT, rfl, e1, e2⟩
      obtain rfl : V.int (i : Nat) = x1 := Option.some.inj e1
      obtain ⟨t, et, c, rfl, hc⟩ := Paired.at hp e2
      have s2 := s1.trans (same_new (o := .tup [.int (i : Nat), .ref c]) nT)
      have hZ2 := same_new (o := .tup [.int (i : Nat), .ref c]) nT _ _ hZ
      refine ⟨T, _, rfl, SqT.of upd_same, rfl, _, _, rfl, _, _, rfl, rfl, rfl, .ref c, rfl, c, _, 0, _, rfl, rfl, SqT.of (s2 _ _ hc), rfl, .ref p, rfl, p, _, rfl, .inr (hp0.same s2).sq, rfl, flat_ints _, _, rfl, ?_⟩
      have et2 := tieAt_of et
      have lb := tiesTo_len ts P i
      rw [tiesTo_succ, et2, List.map_append, in_ints]
      cases hb : P.contains t.one with
      | true =>
        rw [if_pos (List.contains_iff_mem.mp hb)]
        exact ⟨.int i, rfl, _, hZ2, by rw [List.length_map]; exact small1000 (by omega), upd_same, fun b o e => by rw [upd_ne (ne_of_none e nZ)]; exact s2 b o e⟩
      | false =>
        rw [if_neg (fun z => by rw [List.contains_iff_mem.mpr z] at hb; cases hb), List.map_nil, List.append_nil]
        exact ⟨hZ2, s2⟩
    · rintro H1 ⟨hZ, s1⟩
      rw [hlen] at hZ
      refine ⟨Z, _, rfl, .inl ⟨SqL.of hZ, fun r nr => ?_⟩⟩
      exact q r _ (s1.trans (same_new nr)) upd_same
theorem ok_breaks {f : Addr} {fd : FuncData} (F : Fun K "breaks" "breaks" s_breaks f fd)  : FnOk P w K mg base CX0 1 f fd ["sides", "tie"] spBreaksD := by
  refine F.ok sc_breaks (fun vs H Q E h => ?_) (fun cdv A outer s H vs Q E hr h => ?_)
  · obtain ⟨a, b, ks, t, x, y, rfl, _⟩ := h
    rfl
  · obtain ⟨a, b, ks, t, x, y, rfl, ha, nd, hx, hy, hb, q⟩ := h
    have hu := room1 hr
    refine ⟨_, (pss_cons (ps_asg (pv 1) (pg_tup rfl (pgs_cons (pg_name (i := 2) sc_breaks.nd rfl (.inl rfl)) (pgs_cons (pg_name (i := 3) sc_breaks.nd rfl (.inl rfl)) (pgs_cons (pg_name (i := 4) sc_breaks.nd rfl (.inl rfl)) pgs_nil)))))
      (pss_one (ps_ret (pe_cmpR op_eq (pe_cmpR op_eq (pe_dget hu (pv 0) (pv 2) (fun _ _ => rfl)) (pe_dget hu (pv 0) (pv 3) (fun _ _ => rfl)) (nomark _)) (pe_cmpR op_eq (pv 4) pe_str (nomark _)) (nomark _))))), ?_⟩
    have g1 : DGet H a (.int t.one) (some (.int (sideI x))) := by
      rw [← kvOf_some nd hx]
      exact DGet.k (k := Sum.inl t.one) ha
    have g2 : DGet H a (.int t.other) (some (.int (sideI y))) := by
      rw [← kvOf_some nd hy]
      exact DGet.k (k := Sum.inl t.other) ha
    refine ⟨.ref b, rfl, b, _, rfl, SqT.of hb, rfl, _, _, rfl, _, _, rfl, _, _, rfl, rfl, ?_⟩
    refine ⟨.ref a, rfl, .int t.one, rfl, a, _, rfl, g1, .ref a, rfl, .int t.other, rfl, a, _, rfl, g2, rfl, .str (kindS t.foe), rfl, rfl, rfl, ?_⟩
    rw [eq_brk, sideI_eq]
    exact q
set_option maxHeartbeats 8000000 in
theorem ok_odd_parts {f c Pt : Addr} {fd : FuncData} {Ps : List Addr} (F : FunC K "odd_parts" "odd_parts" s_odd_parts f fd c) (TB : GxR.TabB base mg c Pt) (hPt : Pt ∈ Ps) (m_any : mg "any" = none) (D_neighbours : Df P w K mg base 1 "neighbours" ["web"] spNeighbours) (D_parts_of : Df P w K mg base 2 "parts_of" ["web"] spPartsOf) (D_ties_within : Df P w K mg base 1 "ties_within" ["web", "part"] spTiesWithin) (D_sides_from : Df P w K mg base 1 "sides_from" ["start", "around"] spSidesFrom) (D_breaks : Df P w K mg base 1 "breaks" ["sides", "tie"] spBreaksD) : FnOk P w K mg base CX0 4 f fd ["web"] (spOddParts Ps) := by
  obtain ⟨f_neighbours, fd_neighbours, G_neighbours, g_neighbours, k_neighbours, b_neighbours⟩ := D_neighbours
  obtain ⟨f_parts_of, fd_parts_of, G_parts_of, g_parts_of, k_parts_of, b_parts_of⟩ := D_parts_of
  obtain ⟨f_ties_within, fd_ties_within, G_ties_within, g_ties_within, k_ties_within, b_ties_within⟩ := D_ties_within
  obtain ⟨f_sides_from, fd_sides_from, G_sides_from, g_sides_from, k_sides_from, b_sides_from⟩ := D_sides_from
  obtain ⟨f_breaks, fd_breaks, G_breaks, g_breaks, k_breaks, b_breaks⟩ := D_breaks
  refine F.ok sc_odd_parts (fun vs H Q E h => ?_) (fun A outer s H vs Q E hr h => ?_)
  · obtain ⟨wv, n, ts, rfl, _⟩ := h
    rfl
  · obtain ⟨wv, n, ts, rfl, hW, ok, hT, q⟩ := h
    refine ⟨_, (pss_cons (ps_set (i := 1) sc_odd_parts.nd rfl (.inl rfl) (pe_call G_neighbours (hr.mono (by decide)) (by rfl) g_neighbours k_neighbours b_neighbours .nil pass0 (pa_cons (pv 0) pa_nil)))
      (pss_cons (ps_set (i := 2) sc_odd_parts.nd rfl (.inl rfl) (pe_lst pa_nil))
      (pss_cons (ps_for PassesOwn.never rfl (pi_tup (pe_call G_parts_of (hr.mono (by decide)) (by rfl) g_parts_of k_parts_of b_parts_of .nil pass0 (pa_cons (pv 0) pa_nil))) (pg_name (i := 3) sc_odd_parts.nd rfl (.inl rfl))
        (pss_cons (ps_set (i := 4) sc_odd_parts.nd rfl (.inl rfl) (pe_call G_ties_within (hr.mono (by decide)) (by rfl) g_ties_within k_ties_within b_ties_within .nil pass0 (pa_cons (pv 0) (pa_cons (pv 3) pa_nil))))
        (pss_cons (ps_set (i := 5) sc_odd_parts.nd rfl (.inr rfl) (pe_call G_sides_from (hr.mono (by decide)) (by rfl) g_sides_from k_sides_from b_sides_from .nil pass0 (pa_cons (pe_ix ix_tup (pv 3) pe_int (fun _ _ => rfl)) (pa_cons (pv 1) pa_nil))))
        (pss_one (ps_if (pt_val (pe_any (k := 2) (own := [("tie", 6)]) (g := gName 6) hr TB rfl rfl sc_odd_parts.nd (by rfl) m_any (pi_tup (pv 4)) (blkOk_by (N := N_odd_parts) (sc := defScope s_odd_parts) (own := [("tie", 6)]) (by decide +kernel)) ⟨rfl, by decide +kernel, by decide +kernel⟩ (show (".0" : Str) ∉ N_odd_parts by decide +kernel) (fun _ _ _ _ _ _ _ => (pg_name (i := 6) sc_odd_parts.nd rfl (.inl rfl))) (fun _ _ _ _ _ _ _ hr' => (pe_call G_breaks (hr'.mono (by decide)) (by rfl) g_breaks k_breaks b_breaks .nil pass0 (pa_cons (pv 5) (pa_cons (pe_ix (r := rIxT K) ix_tup (pe_ix (r := rIxT K) ix_tup (pv 0) pe_int (fun _ _ => rfl)) (pv 6) (fun _ _ => rfl)) pa_nil))))))
          (pss_one (ps_expr (pe_bm PySem.F.plainAttrs_list PySem.F.slot_list_append PySem.F.type_list_append mt_append (pv 2) (pa_cons (pe_tup (pa_cons (pv 3) (pa_cons (pv 4) pa_nil))) pa_nil))))
          pss_nil)))))
      (pss_one (ps_ret (pv 2)))))), ?_⟩
    obtain ⟨wa, wb, us, rfl, hwa, hwb, hp⟩ := id hW
    have lus : us.length = ts.length := Paired.length hp
    have few := ok.few
    have pt := parts_of_web ok.ok
    refine ⟨.ref wa, rfl, .ref wa, n, ts, rfl, hW, ok, fun av H1 hA s1 => ?_⟩
    refine ⟨Nat.zero_le _, fun L nL => ?_⟩
    have s2 := same_new (o := .lst []) nL
    have hL := upd_same (H := H1) (a := L) (o := .lst [])
    have nL0 := s1.free nL
    have kl2 : KLT H1 (upd H1 L (.lst [])) := KLT.same (fun _ _ _ e => e) s2
    have nL1 := nL
    have k2 := Kt.same hT (s1.trans s2)
    generalize upd H1 L (.lst []) = H2 at s2 hL kl2 k2
    have T2 := k2.tab
    clear s1 s2 nL
    have hW2 := hW.tk (k2.tk hT)
    refine ⟨.ref wa, rfl, .ref wa, n, ts, rfl, hW2, ok, fun pv' H3 s3 hP => ?_⟩
    obtain ⟨pa, bs, rfl, hpa, hbs⟩ := hP
    have lpt := partsTo_len ts n n
    have hi40 := ok.hi
    have lbs := Paired.length hbs
    refine ⟨pa, rfl, ⟨_, SqT.of hpa⟩, ?_⟩
    have k3 := k2.trans (Kt.same T2 s3)
    have T3 := k3.tab
    have hL3 := s3 _ _ hL
    have kl3 := kl2.same s3
    refine for_tup (xs := bs) (fun i σ' H' => ∃ (y3 y4 y5 y6 : Option V) (rows : List V), σ' = [some (.ref wa), some av, some (.ref L), y3, y4, y5, y6] ∧ Kt Ps H H' ∧ KLT H1 H' ∧ H' pa = some (.tup bs) ∧ Paired (IntsV H') bs (partsTo ts n n) ∧ H' L = some (.lst rows) ∧ Paired (RowQ H' ts) rows (((partsTo ts n n).take i).filter (oddF ts))) ⟨none, none, none, none, [], rfl, k3, kl3, hpa, hbs, hL3, .nil⟩ (fun i σ' H' _ h => by
      obtain ⟨_, _, _, _, _, _, _, _, h, _⟩ := h
      exact SqT.of h) ?_ ?_
    · clear hL hL3 kl2 kl3 k2 k3 T2 T3 hpa hbs hW2
      rintro i x σ' H4 ex ⟨y3, y4, y5, y6, rows, rfl, k4, kl4, hpa, hbs, hL, hrows⟩
      have T4 := k4.tab
      have hW4 := hW.tk (k4.tk hT)
      obtain ⟨Pt', ePt, p, rfl, hpp⟩ := Paired.at hbs ex
      have hPm := List.mem_of_getElem? ePt
      refine ⟨.ref wa, rfl, .ref p, rfl, .ref wa, p, n, ts, Pt', rfl, hW4, ok, hpp, fun t H5 s5 ht => ?_⟩
      obtain ⟨p0, P', hP0⟩ := List.exists_cons_of_ne_nil (part_ne hPm)
      have p0m : p0 ∈ Pt' := by rw [hP0]; exact List.mem_cons_self
      have p0r := part_rng hPm p0 p0m
      have at0 : atI (Pt'.map V.int) 0 = some (.int p0) := by rw [hP0]; exact atI_nat (j := 0) rfl
      refine ⟨.ref p, rfl, p, _, 0, .int p0, rfl, rfl, (hpp.same s5).sq, at0, av, rfl, av, n, p0, ts, rfl, hA.kp (kl4.same s5), ok, p0r.1, p0r.2, fun d ks H6 nd hd s6 hS => ?_⟩
      have s46 := s5.trans s6
      have k6 := k4.trans (Kt.same T4 s46)
      have T6 := k6.tab
      have kl6 := kl4.same s46
      have hpa6 := s46 _ _ hpa
      have hbs6 := parts_tk (Same.tk s46) hbs
      have hL6 := s46 _ _ hL
      have hrows6 := rowsQ_tk (Same.tk s46) hrows
      have hpp6 := hpp.same s46
      have ht6 := s6 _ _ ht
      have dL : d ≠ L := fun z => by rw [z] at nd; rw [s5 _ _ hL] at nd; cases nd
      clear kl4 hpa hbs hL hrows hpp ht s5 s6 s46 k4 T4 hW4
      have key : ∀ e ∈ tiesIn ts Pt', ∃ x y, ((tieAt ts e).one, x) ∈ ks ∧ ((tieAt ts e).other, y) ∈ ks := fun e he => by
        have cl := tiesIn_cl pt hPm e he
        have h1 := (hS.all (tieAt ts e).one).mpr (part_rch hPm p0m cl.1)
        have h2 := (hS.all (tieAt ts e).other).mpr (part_rch hPm p0m cl.2)
        obtain ⟨⟨a1, x⟩, m1, e1⟩ := List.mem_map.mp h1
        obtain ⟨⟨a2, y⟩, m2, e2⟩ := List.mem_map.mp h2
        exact ⟨x, y, by rw [← e1]; exact m1, by rw [← e2]; exact m2⟩
      have c0 : ∃ c : Int → Bool, ∀ e ∈ tiesIn ts Pt', ∀ x y, ((tieAt ts e).one, x) ∈ ks → ((tieAt ts e).other, y) ∈ ks → ((x == y) == (tieAt ts e).foe) = brkF c (tieAt ts e) := by
        refine ⟨fun p => decide ((p, true) ∈ ks), fun e he x y hx hy => ?_⟩
        have uni : ∀ {p : Int} {b : Bool}, (p, b) ∈ ks → decide ((p, true) ∈ ks) = b := fun {p b} h => by
          cases b with
          | true => exact decide_eq_true h
          | false =>
            refine decide_eq_false fun h2 => ?_
            have e1 := kvOf_some hS.nd h
            have e2 := kvOf_some hS.nd h2
            rw [e1] at e2
            cases e2
        unfold brkF
        dsimp only
        rw [uni hx, uni hy]
      obtain ⟨c, hc⟩ := c0
      have isodd : (∃ e ∈ tiesIn ts Pt', brkF c (tieAt ts e) = true) → oddF ts Pt' = true := fun ⟨e, he, hb⟩ => by
        refine @decide_eq_true _ (_) fun ⟨c', hn⟩ => ?_
        obtain ⟨x, y, hx, hy⟩ := key e he
        have h0 := none_in hn
        have w1 : (c' p0 ^^ c' (tieAt ts e).one) = x := (walk_in (pt.cl Pt' hPm) h0 (hS.rp _ hx) p0m).1
        have w2 : (c' p0 ^^ c' (tieAt ts e).other) = y := (walk_in (pt.cl Pt' hPm) h0 (hS.rp _ hy) p0m).1
        have hb' := h0 (tieAt ts e) (tieAt_mem (mem_rng.mpr (tiesIn_mem.mp he).1)) (tiesIn_cl pt hPm e he).1
        rw [← hc e he x y hx hy] at hb
        rw [← w1, ← w2] at hb
        unfold brkF at hb'
        revert hb hb'
        show _ → _ → False
        cases c' p0 <;> cases c' (tieAt ts e).one <;> cases c' (tieAt ts e).other <;> cases (tieAt ts e).foe <;> decide
      have iseven : (∀ e ∈ tiesIn ts Pt', brkF c (tieAt ts e) = false) → oddF ts Pt' = false := fun h => by
        refine @decide_eq_false _ (_) fun z => z ⟨c, ?_⟩
        unfold badF
        refine List.filter_eq_nil_iff.mpr fun e he => ?_
        rw [h e he]
        exact Bool.false_ne_true
      have il := (List.getElem?_eq_some_iff.mp ePt).1
      have ltk : ((partsTo ts n n).take i).length ≤ 40 := by rw [List.length_take]; omega
      have lrows : rows.length ≤ 40 := by
        have h1 := Paired.length hrows6
        have h2 := List.length_filter_le (oddF ts) ((partsTo ts n n).take i)
        omega
      have lt := tiesIn_len ts Pt'
      refine ⟨.ref t, rfl, t, rfl, ⟨_, SqT.of ht6⟩, T6 Pt hPt, fun j m H' => j + m = (tiesIn ts Pt').length ∧ Kt Ps H6 H' ∧ ∀ e ∈ (tiesIn ts Pt').take j, brkF c (tieAt ts e) = false, fun H7 hH7 => ⟨(tiesIn ts Pt').length, by omega, Kt.tabbed T6 hPt hH7, fun e he => by rw [List.take_zero] at he; cases he⟩, fun j m H' hw => ?_⟩
      obtain ⟨em, kt, hal⟩ := hw
      have ht' := kt.tup T6 ht6
      by_cases hj : j < (tiesIn ts Pt').length
      · refine .inr ⟨⟨_, _, SqT.of ht', List.getElem?_eq_getElem (by rw [List.length_map]; exact hj)⟩, fun H3 => Kt Ps H6 H3 ∧ ∀ e ∈ (tiesIn ts Pt').take (j + 1), brkF c (tieAt ts e) = false, fun H3 n3 => ⟨m - 1, by omega, by omega, n3.1, n3.2⟩, fun x H7 hy => ?_⟩
        obtain ⟨rfl, fy⟩ := hy
        have ex : ((tiesIn ts Pt').map V.int)[j]? = some x := fy _ (SqT.of ht')
        have ee : (tiesIn ts Pt')[j]? = some (tiesIn ts Pt')[j] := List.getElem?_eq_getElem hj
        rw [List.getElem?_map, ee] at ex
        cases ex
        have em' := List.mem_of_getElem? ee
        generalize (tiesIn ts Pt')[j] = e at ee em'
        have er := (tiesIn_mem.mp em').1
        obtain ⟨x, y, hx, hy⟩ := key e em'
        have k7 := k6.trans kt
        have hwa7 := k7.tup hT hwa
        have hwb7 := k7.tup hT hwb
        obtain ⟨ut, eut, euo⟩ := getI (xs := us) er.1 (by omega)
        obtain ⟨t', et', cc, rfl, hcc⟩ := Paired.at hp euo
        have ett : tieAt ts e = t' := by
          have := tieAt_of et'
          rw [Int.toNat_of_nonneg er.1] at this
          exact this
        rw [← ett] at hcc
        refine ⟨rfl, .ref d, rfl, .ref wa, rfl, wa, _, 1, .ref wb, rfl, rfl, SqT.of hwa7, rfl, .int e, rfl, wb, us, e, .ref cc, rfl, rfl, SqT.of hwb7, eut, d, cc, ks, tieAt ts e, x, y, rfl, kt.dct T6 hd, hS.nd, hx, hy, k7.tup hT hcc, _, rfl, ?_⟩
        rw [hc e em' x y hx hy]
        cases hb : brkF c (tieAt ts e) with
        | false =>
          rw [if_pos rfl]
          refine ⟨kt, fun e' he' => ?_⟩
          rw [List.take_add_one, ee] at he'
          rcases List.mem_append.mp he' with z | z
          · exact hal e' z
          · have z : e' = e := by simpa using z
            rw [z]
            exact hb
        | true =>
          rw [if_neg Bool.noConfusion]
          have od := isodd ⟨e, em', hb⟩
          have T7 := k7.tab
          refine ⟨_, rfl, ?_⟩
          refine ⟨.ref L, rfl, .inl ⟨rfl, _, SqL.of (kt.lst T6 hL6)⟩, .ref p, rfl, .ref t, rfl, by show 2 ≤ sizeLine; decide, fun r nr => ?_⟩
          have s8 := same_new (o := .tup [.ref p, .ref t]) nr
          have hr8 := upd_same (H := H7) (a := r) (o := .tup [.ref p, .ref t])
          have kt8 := kt.trans (Kt.same kt.tab s8)
          generalize upd H7 r (.tup [.ref p, .ref t]) = H8 at s8 hr8 kt8
          have hL8 := kt8.lst T6 hL6
          refine ⟨L, rows, .ref r, rfl, rfl, hL8, small1000 (by omega), ?_⟩
          have tkL := tk_lst (ys := rows ++ [.ref r]) hL8
          have tk8 := kt8.tk T6
          have k9 : Kt Ps H (upd H8 L (.lst (rows ++ [.ref r]))) := (k6.trans kt8).mutN hT nL0
          refine ⟨_, _, _, _, _, rfl, k9, (kl6.kt kt8 T6).mut nL1, tkL _ _ (tk8 _ _ hpa6), parts_tk tkL (parts_tk tk8 hbs6), upd_same, ?_⟩
          · rw [List.take_add_one, ePt, List.filter_append]
            have e1 : [Pt'].filter (oddF ts) = [Pt'] := List.filter_cons_of_pos od
            show Paired _ _ (_ ++ [Pt'].filter (oddF ts))
            rw [e1]
            exact Paired.snoc (rowsQ_tk tkL (rowsQ_tk tk8 hrows6)) ⟨r, p, t, rfl, tkL _ _ hr8, (hpp6.tk tk8).tk tkL, tkL _ _ (tk8 _ _ ht6)⟩
      · refine .inl ⟨⟨_, SqT.of ht', by rw [List.length_map]; omega⟩, _, rfl, ?_⟩
        rw [List.take_of_length_le (by omega)] at hal
        have od := iseven hal
        have tk := kt.tk T6
        refine ⟨_, _, _, _, rows, rfl, k6.trans kt, kl6.kt kt T6, tk _ _ hpa6, parts_tk tk hbs6, kt.lst T6 hL6, ?_⟩
        · rw [List.take_add_one, ePt, List.filter_append]
          have e1 : [Pt'].filter (oddF ts) = [] := List.filter_cons_of_neg (by rw [od]; exact Bool.false_ne_true)
          show Paired _ _ (_ ++ [Pt'].filter (oddF ts))
          rw [e1, List.append_nil]
          exact rowsQ_tk tk hrows6
    · rintro σ' H4 ⟨y3, y4, y5, y6, rows, rfl, k4, _, _, _, hL4, hrows⟩
      have lb2 : bs.length = (partsTo ts n n).length := lbs
      rw [lb2, List.take_length] at hrows
      exact ⟨.ref L, rfl, q L rows H4 k4 nL0 hL4 hrows⟩
end
/-! ### list.extend with a tuple; the least of a list of pairs of a number and a row -/
section
open PySem.AutoSeq1
set_option maxRecDepth 8000 in
theorem ext_tup (l : Addr) (items : Array Value) (n : Nat) (b : Addr) (items2 : Array Value) (n2 : Nat) (dc : Option Addr) (sl : Array (Option Value)) (hs0 : ¬(!items.isEmpty && Builtin.List.listTooLong (items.size + items2.size)) = true) (hs1 : items.size ≤ sizeLine) (hs2 : items.size + items2.size ≤ sizeLine + 1) :
    Meets (Builtin.«list.extend» ⟨[.ref l, .ref b], []⟩) (fun _ R s => s.heap.get? l = some { cls := .type "list", dict := none, data := .seq items n, slots := #[] } ∧ s.heap.get? b = some { cls := .type "tuple", dict := dc, data := .seq items2 n2, slots := sl } ∧ R (.ok (.ret Value.none)) { s with heap := s.heap.update l (Obj.mapSeq fun x => x ++ items2), toks := s.toks }) :=
  .of_wp fun prog w A R s h => by
    obtain ⟨hp, g, d, tk, os⟩ := s; obtain ⟨hl, hb, h⟩ := h; have f1 := idx_int; have f2 := AutoSeq1.sub_tuple_tuple; have f3 := AutoSeq1.sub_list_list; have f4 := AutoSeq1.sub_tuple_list; have f5 := AutoSeq1.sub_list_tuple;
    have hz' : (items ++ items2).size ≤ sizeLine + 1 := by rw [Array.size_append]; exact hs2
    wp_walk using (wpAny_updateSeq hl rfl (hz := hs1) (_hz' := hz')), AutoSeq1.wpAny_loadPart' hl, AutoSeq1.wpAny_loadPart' hb; exact ⟨_, rfl, h⟩
end
def rExtendT (K : PySem.W.Frag) : V → List V → Hp → VK → Prop := fun x vs H Q => ∃ l b xs zs, x = .ref l ∧ vs = [.ref b] ∧ H l = some (.lst xs) ∧ SqT K H b zs ∧ xs.length + zs.length ≤ sizeLine ∧ Q .non (upd H l (.lst (xs ++ zs)))
theorem mt_extendT {X : Cx} : MtM X "list.extend" (rExtendT X.K) := by
  intro pins s σ H x vs v us Q I rx rv h
  obtain ⟨l, b, xs, zs, rfl, rfl, hH, hB, hz, q⟩ := h
  cases rx
  obtain ⟨u, rfl, ru⟩ := rv.one
  cases ru
  obtain ⟨z, its, n, r, hl, e⟩ := I.lstM hH
  obtain ⟨its2, r2, ⟨⟨cl, dc, da, sl⟩, e2, ec, n2, ed⟩, hl2⟩ := I.tuple hB
  have ec : cl = .type "tuple" := ec
  have ed : da = .seq its2.toArray n2 := ed
  subst ec ed
  have l2 := r2.length
  have hsz : its.toArray.size + its2.toArray.size ≤ sizeLine := by rw [List.size_toArray, List.size_toArray]; omega
  have hlong : ¬ (!its.toArray.isEmpty && Builtin.List.listTooLong (its.toArray.size + its2.toArray.size)) = true := by
    rw [notLongL hsz, Bool.and_false]
    exact Bool.false_ne_true
  refine call_meets F.slot_list_extend ⟨_, e, rfl⟩ F.entry_list_extend (F.args_list_extend_2 _ _)
    (ext_tup l its.toArray n b its2.toArray n2 dc sl hlong (by rw [List.size_toArray]; omega) (by omega)) ⟨e, e2, ?_⟩
  refine ⟨.non, _, I.lset (its' := its ++ its2) hH e (by simp) (r.append r2) ?_, rfl, q⟩
  rw [List.length_append]
  omega
def WLV (H : Hp) (v : V) (q : WL) : Prop := ∃ a b, v = .ref a ∧ H a = some (.tup [.int q.1, .ref b]) ∧ H b = some (.tup (q.2.map V.int))
theorem WLV.tk {H H' : Hp} (k : Tk H H') {v : V} {q : WL} (h : WLV H v q) : WLV H' v q := by
  obtain ⟨a, b, e, h1, h2⟩ := h
  exact ⟨a, b, e, k _ _ h1, k _ _ h2⟩
theorem wls_tk {H H' : Hp} (k : Tk H H') {vs : List V} {qs : List WL} (h : Paired (WLV H) vs qs) : Paired (WLV H') vs qs := Paired.mono (fun _ _ x => x.tk k) h
abbrev WT := Int × PySem.W.Tup Int
def wT (q : WL) : WT := (q.1, ⟨q.2⟩)
theorem listLt_ltL : ∀ xs ys : List Int, PySem.W.listLt xs ys = ltL xs ys
  | [], [] => rfl
  | [], _ :: _ => rfl
  | _ :: _, [] => rfl
  | x :: xs, y :: ys => by
    show (if x = y then PySem.W.listLt xs ys else decide (x < y)) = (if x = y then ltL xs ys else decide (x < y))
    rw [listLt_ltL xs ys]
theorem wT_lt (p q : WL) : PySem.W.DatumOrd.lt (wT p) (wT q) = ltW p q := by
  show (if p.1 = q.1 then PySem.W.listLt p.2 q.2 else decide (p.1 < q.1)) = ltW p q
  rw [listLt_ltL]
  rfl
theorem minW_spec : ∀ (ps : List WL) (p : WL), ∃ m ∈ p :: ps, PySem.W.minOf (wT p) (ps.map wT) = wT m ∧ ∀ q ∈ p :: ps, ltW q m = false
  | [], p => ⟨p, by simp, rfl, fun q hq => by
      rw [List.mem_singleton.mp hq]
      cases h : ltW p p with
      | false => rfl
      | true => rw [ltW_asym h] at h; exact h.symm⟩
  | x :: ps, p => by
    have e : PySem.W.minOf (wT p) ((x :: ps).map wT) = PySem.W.minOf (if PySem.W.DatumOrd.lt (wT x) (wT p) = true then wT x else wT p) (ps.map wT) := rfl
    rw [e, wT_lt]
    cases h : ltW x p with
    | true =>
      obtain ⟨m, h1, h2, h3⟩ := minW_spec ps x
      rw [if_pos rfl]
      refine ⟨m, List.mem_cons_of_mem _ h1, h2, fun q hq => ?_⟩
      rcases List.mem_cons.mp hq with z | z
      · rw [z]
        exact ltW_trans (h3 x (by simp)) (ltW_asym h)
      · exact h3 q z
    | false =>
      obtain ⟨m, h1, h2, h3⟩ := minW_spec ps p
      rw [if_neg Bool.false_ne_true]
      refine ⟨m, ?_, h2, fun q hq => ?_⟩
      · rcases List.mem_cons.mp h1 with z | z
        · rw [z]
          simp
        · exact List.mem_cons_of_mem _ (List.mem_cons_of_mem _ z)
      · rcases List.mem_cons.mp hq with z | z
        · rw [z]
          exact h3 p (by simp)
        · rcases List.mem_cons.mp z with y | y
          · rw [y]
            exact ltW_trans (h3 p (by simp)) h
          · exact h3 q (List.mem_cons_of_mem _ y)
def pW (q : WL) : PyData := .tuple [.int q.1, .tuple (q.2.map .int)]
theorem dp_wls {K : PySem.W.Frag} {H : Hp} : ∀ {xs : List V} {ps : List WL}, Paired (WLV H) xs ps → DpAll K H xs (ps.map pW)
  | _, _, .nil => .nil
  | _, _, .cons r t => by
    obtain ⟨a, b, rfl, e, e2⟩ := r
    exact .cons (.tup (SqT.of e) (.cons (.int _) (.cons (.tup (SqT.of e2) (dp_ints _)) .nil))) (dp_wls t)
theorem deep_wls : ∀ ps : List WL, PyData.depthAll (ps.map pW) ≤ 2
  | [] => by simp [PyData.depthAll]
  | p :: ps => by
    have h := deep_wls ps
    have g : (pW p).depth = 2 := by simp [pW, PyData.depth, PyData.depthAll, deep_ints]
    rw [List.map_cons, PyData.depthAll, g]
    omega
theorem pW_inj {p q : WL} (h : pW p = pW q) : p = q := by
  unfold pW at h
  injection h with h
  injection h with h1 h2
  injection h1 with h1
  injection h2 with h2 _
  injection h2 with h2
  exact Prod.ext h1 (List.map_inj_right (f := PyData.int) (fun a b e => by injection e) |>.mp h2)
def rMinW (K : PySem.W.Frag) : List V → Hp → VK → Prop := fun vs H Q => ∃ (a : Addr) (xs : List V) (ps : List WL), vs = [V.ref a] ∧ SqL K H a xs ∧ Paired (WLV H) xs ps ∧ ps ≠ [] ∧ ∀ x p, WLV H x p → p ∈ ps → (∀ q ∈ ps, ltW q p = false) → Q x H
theorem cr_minW {X : Cx} (hc : X.calm = true) (hu : X.A.units + 65 < cLine) : CallR X (.builtin "min") (rMinW X.K) := by
  intro pins s σ H vs us Q I r h
  obtain ⟨a, xs, ps, rfl, hs, hp, hne, q⟩ := h
  obtain ⟨its, rv, hl, _⟩ := I.list hs
  rw [Vals.ref1 r]
  obtain ⟨p0, ps', rfl⟩ := List.exists_cons_of_ne_nil hne
  obtain ⟨as, hr⟩ := Dp.readsAll I _ _ _ (dp_wls (K := X.K) hp) rv
  have hr' : ReadsAll s.heap its.toArray.toList (pW p0 :: ps'.map pW) as := hr
  have md : (p0 :: ps').map pW = ((p0 :: ps').map wT).map PySem.W.Datum.toD := by rw [List.map_map]; rfl
  refine PySem.W.min_list_data (I.ok.hd hc) hl.isList hr' (by have := PySem.W.alikeAll_datum ((p0 :: ps').map wT); rw [← md] at this; exact this) (by have := deep_wls (p0 :: ps'); rw [List.map_cons] at this; omega) fun i v h' tk bs hv rd hk => ?_
  obtain ⟨m, m1, m2, m3⟩ := minW_spec ps' p0
  have em : PySem.W.minD (pW p0) (ps'.map pW) = pW m := by
    have e1 : ps'.map pW = (ps'.map wT).map PySem.W.Datum.toD := by rw [List.map_map]; rfl
    have e2 := PySem.W.minD_map (wT p0) (ps'.map wT)
    rw [m2, ← e1] at e2
    exact e2
  rw [em] at rd
  have hv' : its[i]? = some v := by simpa using hv
  obtain ⟨x, ex, rx⟩ := Paired.at' rv hv'
  obtain ⟨p, ep, t, b, rfl, ht, hb⟩ := Paired.at hp ex
  obtain ⟨cs, rd2, _⟩ := PySem.W.readsAll_atA hr' i v hv
  have eg : (pW p0 :: ps'.map pW).getD i .none = pW p := by
    have : ((p0 :: ps').map pW)[i]? = some (pW p) := by rw [List.getElem?_map, ep]; rfl
    rw [List.getD_eq_getElem?_getD]
    rw [List.map_cons] at this
    rw [this]
    rfl
  rw [eg] at rd2
  have lay : (pW p).canLay0 = true := by simp [pW, PyData.canLay0, PyData.canLayAll0, lay_ints]
  have eq := PySem.SeqAt.Reads.unique _ _ _ _ _ lay (PySem.W.reads_keeps hk rd2) rd
  have ep2 : p = m := pW_inj eq
  exact ⟨.ref t, H, I.kept hk, rx, q _ p ⟨t, b, rfl, ht, hb⟩ (List.mem_of_getElem? ep) (by rw [ep2]; exact m3)⟩
theorem room65 {k : Nat} {A : PySem.Around} (r : Room k A) : A.units + 65 < cLine := by have := r.un; omega
/-! ### least mends: no part too great; all sides -/
def DKV (H : Hp) (v : V) (ks : List Nb) : Prop := ∃ a, v = .ref a ∧ H a = some (.dK (kvOf ks))
theorem DKV.same {H H' : Hp} (s : Same H H') {v : V} {ks : List Nb} (h : DKV H v ks) : DKV H' v ks := by
  obtain ⟨a, e, h⟩ := h
  exact ⟨a, e, s _ _ h⟩
theorem DKV.lst {H : Hp} {L : Addr} {xs ys : List V} (hL : H L = some (.lst xs)) {v : V} {ks : List Nb} (h : DKV H v ks) : DKV (upd H L (.lst ys)) v ks := by
  obtain ⟨a, e, h⟩ := h
  refine ⟨a, e, ?_⟩
  rw [upd_ne (fun z => by rw [z, hL] at h; cases h)]
  exact h
theorem dks_same {H H' : Hp} (s : Same H H') {vs : List V} {css : List (List Nb)} (h : Paired (DKV H) vs css) : Paired (DKV H') vs css := Paired.mono (fun _ _ x => x.same s) h
theorem dks_lst {H : Hp} {L : Addr} {xs ys : List V} (hL : H L = some (.lst xs)) {vs : List V} {css : List (List Nb)} (h : Paired (DKV H) vs css) : Paired (DKV (upd H L (.lst ys))) vs css := Paired.mono (fun _ _ x => x.lst hL) h
def two (p : Int) (ks : List Nb) : List (List Nb) := [ks ++ [(p, false)], ks ++ [(p, true)]]
def chF (css : List (List Nb)) (P : List Int) : List (List Nb) := P.foldl (fun css p => css.flatMap (two p)) css
theorem chF_keys : ∀ (P B : List Int) (css : List (List Nb)), (∀ ks ∈ css, ks.map (·.1) = B) → ∀ ks ∈ chF css P, ks.map (·.1) = B ++ P
  | [], B, css, h => fun ks hk => by rw [List.append_nil]; exact h ks hk
  | p :: P, B, css, h => fun ks hk => by
    have := chF_keys P (B ++ [p]) (css.flatMap (two p)) (fun ks hk => by
      obtain ⟨k0, h0, h1⟩ := List.mem_flatMap.mp hk
      unfold two at h1
      rcases List.mem_cons.mp h1 with rfl | h1
      · rw [List.map_append, h k0 h0]; rfl
      · rw [List.mem_singleton.mp h1, List.map_append, h k0 h0]; rfl) ks hk
    rw [this, List.append_assoc]
    rfl
theorem chF_cov (c : Int → Bool) : ∀ (P B : List Int) (css : List (List Nb)), B.map (fun p => (p, c p)) ∈ css → (B ++ P).map (fun p => (p, c p)) ∈ chF css P
  | [], B, css, h => by rw [List.append_nil]; exact h
  | p :: P, B, css, h => by
    have := chF_cov c P (B ++ [p]) (css.flatMap (two p)) (List.mem_flatMap.mpr ⟨_, h, by
      rw [List.map_append]
      unfold two
      cases hc : c p with
      | false => exact List.mem_cons.mpr (.inl (by simp [hc]))
      | true => exact List.mem_cons_of_mem _ (List.mem_singleton.mpr (by simp [hc]))⟩)
    rw [List.append_assoc] at this
    exact this
theorem chF_len : ∀ (P : List Int) (css : List (List Nb)), (chF css P).length = css.length * 2 ^ P.length
  | [], css => by simp [chF]
  | p :: P, css => by
    have h := chF_len P (css.flatMap (two p))
    have e : (css.flatMap (two p)).length = css.length * 2 := by
      rw [List.length_flatMap, show (fun ks : List Nb => (two p ks).length) = fun _ => 2 from rfl]
      clear h
      induction css with
      | nil => rfl
      | cons k css ih => rw [List.map_cons, List.sum_cons, ih, List.length_cons]; omega
    rw [e] at h
    show (chF (css.flatMap (two p)) P).length = _
    rw [h, List.length_cons, Nat.pow_succ, Nat.mul_assoc, Nat.mul_comm 2]
theorem chF_snoc (css : List (List Nb)) (P : List Int) (p : Int) : chF css (P ++ [p]) = (chF css P).flatMap (two p) := by
  unfold chF
  rw [List.foldl_append]
  rfl
theorem kvOf_merge : ∀ (bs as : List Nb), ((as ++ bs).map (·.1)).Nodup → mergeK (kvOf as) (kvOf bs) = kvOf (as ++ bs)
  | [], as, _ => by rw [List.append_nil]; rfl
  | (z, b) :: bs, as, nd => by
    have e : as ++ (z, b) :: bs = (as ++ [(z, b)]) ++ bs := by rw [List.append_assoc]; rfl
    have n1 : z ∉ as.map (·.1) := by
      rw [List.map_append, List.nodup_append] at nd
      exact fun h => nd.2.2 z h z (by simp) rfl
    show mergeK (putK (kvOf as) (Sum.inl z) (.int (sideI b))) (kvOf bs) = _
    rw [kvOf_put n1, kvOf_merge bs _ (by rw [← e]; exact nd), e]
def rLen38 (K : PySem.W.Frag) : List V → Hp → VK → Prop := fun xs H Q => ∃ p ys, xs = [V.ref p] ∧ (SqL K H p ys ∨ SqT K H p ys) ∧ Q (V.int (ys.length : Nat)) H
def spAllSides : Sp := fun vs H Q _ => ∃ (p : Addr) (p0 : Int) (P : List Int), vs = [.ref p] ∧ NoD H p ((p0 :: P).map V.int) ∧ (p0 :: P).Nodup ∧ P.length ≤ 7 ∧ ∀ L ds H', Same H H' → H L = none → H' L = some (.lst ds) → Paired (DKV H') ds (chF [[(p0, false)]] P) → Q (.ref L) H'
section
variable {P : Program} {w : World} {K : PySem.W.Frag} {mg : Str → Option Value} {base : Heap}
theorem ok_small_odd_parts {f c Pt : Addr} {fd : FuncData} {tm : Tok} {Ps : List Addr} (F : FunC K "small_odd_parts" "small_odd_parts" s_small_odd_parts f fd c) (TB : GxR.TabB base mg c Pt) (hPt : Pt ∈ Ps) (M : Free mg) (m_any : mg "any" = none) (gM : mg "MOST_PLACES" = some (.int 8 tm)) (D_odd_parts : Df P w K mg base 4 "odd_parts" ["web"] (spOddParts Ps)) : FnOk P w K mg base CX0 6 f fd ["web"] (spSmallOdd Ps) := by
  obtain ⟨f_odd_parts, fd_odd_parts, G_odd_parts, g_odd_parts, k_odd_parts, b_odd_parts⟩ := D_odd_parts
  refine F.ok sc_small_odd_parts (fun vs H Q E h => ?_) (fun A outer s H vs Q E hr h => ?_)
  · obtain ⟨wv, n, ts, rfl, _⟩ := h
    rfl
  · obtain ⟨wv, n, ts, rfl, hW, ok, hb, hT, q⟩ := h
    refine ⟨_, (pss_cons (ps_set (i := 1) sc_small_odd_parts.nd rfl (.inl rfl) (pe_call G_odd_parts (hr.mono (by decide)) (by rfl) g_odd_parts k_odd_parts b_odd_parts .nil pass0 (pa_cons (pv 0) pa_nil)))
      (pss_cons (ps_if (pt_val (pe_any (k := 4) (own := [("part", 2), ("ties", 3)]) (g := gTup K 2 (gCons (gName 2) (gCons (gName 3) gNil))) hr TB rfl rfl sc_small_odd_parts.nd (by rfl) m_any (pi_list (pv 1)) (blkOk_by (N := N_small_odd_parts) (sc := defScope s_small_odd_parts) (own := [("part", 2), ("ties", 3)]) (by decide +kernel)) ⟨rfl, by decide +kernel, by decide +kernel⟩ (show (".0" : Str) ∉ N_small_odd_parts by decide +kernel) (fun _ _ _ _ _ _ _ => (pg_tup rfl (pgs_cons (pg_name (i := 2) sc_small_odd_parts.nd rfl (.inl rfl)) (pgs_cons (pg_name (i := 3) sc_small_odd_parts.nd rfl (.inl rfl)) pgs_nil))))
          (fun _ _ _ _ _ _ _ hr' => (pe_cmpR op_gt (pe_callB (r := rLen38 K) call_len_seq (by rfl) M.len PySem.boot_len (pa_cons (pv 2) pa_nil)) (pe_glob (v := .int 8) rfl gM ⟨_, rfl⟩) (nomark _)))))
        (pss_one ps_never) pss_nil)
      (pss_one (ps_ret (pv 1))))), ?_⟩
    refine ⟨wv, rfl, wv, n, ts, rfl, hW, ok, hT, fun L rows H1 k1 nL hL hrows => ?_⟩
    have T1 := k1.tab
    have lpt := partsTo_len ts n n
    have hi40 := ok.hi
    refine ⟨.ref L, rfl, L, rfl, ⟨_, SqL.of hL⟩, T1 Pt hPt, fun j m H' => j + m = rows.length ∧ Kt Ps H1 H', fun H7 hH7 => ⟨rows.length, by omega, Kt.tabbed T1 hPt hH7⟩, fun j m H' hw => ?_⟩
    obtain ⟨em, kt⟩ := hw
    have hL' := kt.lst T1 hL
    by_cases hj : j < rows.length
    · refine .inr ⟨⟨_, _, SqL.of hL', List.getElem?_eq_getElem hj⟩, fun H3 => Kt Ps H1 H3, fun H3 n3 => ⟨m - 1, by omega, by omega, n3⟩, fun x H7 hy => ?_⟩
      obtain ⟨rfl, fy⟩ := hy
      have ex : rows[j]? = some x := fy _ (SqL.of hL')
      have hrows' := rowsQ_tk (kt.tk T1) hrows
      obtain ⟨P', eP, a, p, t, rfl, ha, hp, ht⟩ := Paired.at hrows' ex
      obtain ⟨hPm, od⟩ := List.mem_filter.mp (List.mem_of_getElem? eP)
      have l8 := hb P' hPm od
      refine ⟨a, _, rfl, SqT.of ha, rfl, _, _, rfl, _, _, rfl, rfl, rfl, .ref p, rfl, p, _, rfl, .inr hp.sq, _, 8, rfl, rfl, _, rfl, ?_⟩
      rw [decide_eq_false (show ¬ (8 : Int) < ((P'.map V.int).length : Nat) by rw [List.length_map]; omega), if_pos rfl]
      exact kt
    · refine .inl ⟨⟨_, SqL.of hL', by omega⟩, ?_⟩
      refine ⟨_, rfl, ?_⟩
      exact ⟨.ref L, rfl, q L rows _ (k1.trans kt) nL hL' (rowsQ_tk (kt.tk T1) hrows)⟩
end
section
variable {P : Program} {w : World} {K : PySem.W.Frag} {mg : Str → Option Value} {base : Heap}
set_option maxHeartbeats 4000000 in
theorem ok_all_sides {f : Addr} {fd : FuncData} (F : Fun K "all_sides" "all_sides" s_all_sides f fd)  : FnOk P w K mg base CX0 1 f fd ["part"] spAllSides := by
  refine F.ok sc_all_sides (fun vs H Q E h => ?_) (fun cdv A outer s H vs Q E hr h => ?_)
  · obtain ⟨p, p0, P, rfl, _⟩ := h
    rfl
  · obtain ⟨p, p0, P, rfl, hp, nd, l7, q⟩ := h
    have hu := room1 hr
    refine ⟨_, (pss_cons (ps_set (i := 1) sc_all_sides.nd rfl (.inl rfl) (pe_lst (pa_cons (pe_disp (pps_cons (pe_ix ix_tup (pv 0) pe_int (fun _ _ => rfl)) pe_int pps_nil) (by rfl) (by rfl) (fun z => by cases z) (by decide)) pa_nil)))
      (pss_cons (ps_for PassesOwn.never rfl (pi_tup (pe_slice sl_tup (pv 0) (po_some pe_int) po_none)) (pg_name (i := 2) sc_all_sides.nd rfl (.inr rfl))
        (pss_one (ps_setLc2 (i := 1) (own := [("sides", 3), ("side", 4)]) (vs1 := [4]) (wi1 := iTup K (tTup (tCons (tC (.int 0)) (tCons (tC (.int 1)) tNil)))) (g := gName 3) (tt := tYes) (g1 := gName 4) (tt1 := tYes) (te := tDStar (tVar 3) (tVar 2) (tVar 4)) rfl sc_all_sides.nd rfl rfl (sw_true rfl rfl rfl (by decide +kernel)) (pi_list (pv 1)) (blkOk_by (N := N_all_sides) (sc := defScope s_all_sides) (own := [("sides", 3), ("side", 4)]) (by decide +kernel)) (by decide)
          (fun _ _ _ _ _ => (pg_name (i := 3) sc_all_sides.nd rfl (.inl rfl))) (fun _ _ _ _ _ => pts_nil) (fun _ _ _ _ _ => pi_tup (pe_tup (pa_cons pe_int (pa_cons pe_int pa_nil)))) (fun _ _ _ _ _ => (pg_name (i := 4) sc_all_sides.nd rfl (.inl rfl))) (fun _ _ _ _ _ => pts_nil) (fun _ _ _ _ _ => pe_dstar (pv 3) (pv 2) (pv 4)))))
      (pss_one (ps_ret (pv 1))))), ?_⟩
    refine fun d nd0 => ⟨.ref p, rfl, p, _, 0, .int p0, rfl, rfl, (hp.same (same_new nd0)).sq, by rw [List.map_cons]; exact atI_nat (j := 0) rfl, upd_same, [(Sum.inl p0, .int 0)], rfl, by show 1 ≤ 15; decide, ?_⟩
    have s1 : Same H (upd (upd H d (.dK [])) d (.dK (mergeK [] [(Sum.inl p0, V.int 0)]))) := fun b o e => by rw [upd_ne (ne_of_none e nd0), upd_ne (ne_of_none e nd0)]; exact e
    have hd1 : (upd (upd H d (.dK [])) d (.dK (mergeK [] [(Sum.inl p0, V.int 0)]))) d = some (.dK (kvOf [(p0, false)])) := upd_same
    generalize (upd (upd H d (.dK [])) d (.dK (mergeK [] [(Sum.inl p0, V.int 0)]))) = H1 at s1 hd1
    refine ⟨by show 1 ≤ sizeLine; decide, fun L nL => ?_⟩
    have s2 := s1.trans (same_new (o := .lst [.ref d]) nL)
    have hL2 := upd_same (H := H1) (a := L) (o := .lst [.ref d])
    have hd2 := same_new (o := .lst [.ref d]) nL _ _ hd1
    have nL0 := s1.free nL
    generalize upd H1 L (.lst [.ref d]) = H2 at s2 hL2 hd2
    refine ⟨.ref p, rfl, 1, rfl, p, _, rfl, (hp.same s2).sq, (by simp [HT.sIx]), fun sa nsa => ?_⟩
    have s3 := same_new (o := .tup (cutV ((p0 :: P).map V.int) (some 1) none)) nsa
    have hsa := upd_same (H := H2) (a := sa) (o := .tup (cutV ((p0 :: P).map V.int) (some 1) none))
    generalize upd H2 sa (.tup (cutV ((p0 :: P).map V.int) (some 1) none)) = H3 at s3 hsa
    have ecut : cutV ((p0 :: P).map V.int) (some 1) none = P.map V.int := by
      unfold cutV
      simp [HT.sIx]
      rw [show P.length = (P.map V.int).length by rw [List.length_map], List.take_length]
    rw [ecut] at hsa
    refine ⟨sa, rfl, ⟨_, SqT.of hsa⟩, ?_⟩
    refine for_tup (xs := P.map V.int) (fun i σ' H' => ∃ (y2 : Option V) (L : Addr) (ds : List V), σ' = [some (.ref p), some (.ref L), y2, none, none] ∧ Same H H' ∧ H L = none ∧ H' L = some (.lst ds) ∧ Paired (DKV H') ds (chF [[(p0, false)]] (P.take i)) ∧ H' sa = some (.tup (P.map V.int))) ⟨none, L, [.ref d], rfl, s2.trans s3, nL0, s3 _ _ hL2, .cons ⟨d, rfl, s3 _ _ hd2⟩ .nil, hsa⟩ (fun i σ' H' _ h => by
      obtain ⟨_, _, _, _, _, _, _, _, h⟩ := h
      exact SqT.of h) ?_ ?_
    · clear s1 hd1 nL nL0 s2 hL2 hd2 s3 hsa
      rintro i x σ' H4 ex ⟨y2, L, ds, rfl, s4, nL, hL, hds, hsa⟩
      obtain ⟨pl, epl, rfl⟩ : ∃ pl, P[i]? = some pl ∧ x = .int pl := by
        rw [List.getElem?_map] at ex
        cases hP : P[i]? with
        | none => rw [hP] at ex; cases ex
        | some pl => rw [hP] at ex; exact ⟨pl, rfl, (Option.some.inj ex).symm⟩
      have il := (List.getElem?_eq_some_iff.mp epl).1
      have etk : P.take (i + 1) = P.take i ++ [pl] := by rw [List.take_add_one, epl]; rfl
      have keys := chF_keys (P.take i) [p0] [[(p0, false)]] (fun ks hk => by rw [List.mem_singleton.mp hk]; rfl)
      have clen := chF_len (P.take i) [[(p0, false)]]
      have c64 : (chF [[(p0, false)]] (P.take i)).length ≤ 64 := by
        rw [clen, List.length_take, Nat.min_eq_left (by omega)]
        have : 2 ^ i ≤ 2 ^ 6 := Nat.pow_le_pow_right (by decide) (by omega)
        simpa using this
      generalize hcs : chF [[(p0, false)]] (P.take i) = css at hds keys c64
      have lds : ds.length = css.length := Paired.length hds
      have nin : ∀ ks ∈ css, (ks.map (·.1)).Nodup ∧ pl ∉ ks.map (·.1) ∧ ks.length ≤ 8 := fun ks hk => by
        have e := keys ks hk
        have nd' : ([p0] ++ P.take (i + 1)).Nodup := by
          have h : ([p0] ++ P.take (i + 1)) = (p0 :: P).take (i + 2) := rfl
          rw [h]
          exact nd.sublist (List.take_sublist _ _)
        rw [etk, ← List.append_assoc, List.nodup_append] at nd'
        have l := congrArg List.length e
        rw [List.length_map, List.length_append, List.length_take] at l
        have l1 : ([p0] : List Int).length = 1 := rfl
        exact ⟨by rw [e]; exact nd'.1, by rw [e]; exact fun z => nd'.2.2 pl z pl (by simp) rfl, by omega⟩
      refine ⟨.ref L, rfl, L, rfl, ⟨_, SqL.of hL⟩, fun D nD => ?_⟩
      have nD0 := s4.free nD
      refine ⟨fun j m H' => j + m = css.length ∧ ∃ es, H' D = some (.lst es) ∧ Paired (DKV H') es ((css.take j).flatMap (two pl)) ∧ Same H H' ∧ H' L = some (.lst ds) ∧ Paired (DKV H') ds css ∧ H' sa = some (.tup (P.map V.int)), ⟨css.length, by omega, [], upd_same, .nil, s4.trans (same_new nD), same_new nD _ _ hL, dks_same (same_new nD) hds, same_new nD _ _ hsa⟩, ?_⟩
      rintro j m H5 ⟨em, es, hD5, hes, s5, hL5, hds5, hsa5⟩
      by_cases hj : j < css.length
      · refine .inr ⟨⟨_, _, SqL.of hL5, List.getElem?_eq_getElem (by omega)⟩, fun H' => ∃ es, H' D = some (.lst es) ∧ Paired (DKV H') es ((css.take (j + 1)).flatMap (two pl)) ∧ Same H H' ∧ H' L = some (.lst ds) ∧ Paired (DKV H') ds css ∧ H' sa = some (.tup (P.map V.int)), fun H' n' => ⟨m - 1, by omega, by omega, n'⟩, fun x H6 hy => ?_⟩
        obtain ⟨rfl, fy⟩ := hy
        have ex2 : ds[j]? = some x := fy _ (SqL.of hL5)
        obtain ⟨ks, eks, a, rfl, ha⟩ := Paired.at hds5 ex2
        obtain ⟨nk, npl, lk⟩ := nin ks (List.mem_of_getElem? eks)
        have etk2 : (css.take (j + 1)).flatMap (two pl) = (css.take j).flatMap (two pl) ++ two pl ks := by
          rw [List.take_add_one, eks, List.flatMap_append]
          simp
        have les : es.length ≤ 128 := by
          have h1 := Paired.length hes
          have h2 : ∀ l : List (List Nb), (l.flatMap (two pl)).length = l.length * 2 := fun l => by
            rw [List.length_flatMap, show (fun ks : List Nb => (two pl ks).length) = fun _ => 2 from rfl]
            induction l with
            | nil => rfl
            | cons k css ih => rw [List.map_cons, List.sum_cons, ih, List.length_cons]; omega
          rw [h2, List.length_take] at h1
          omega
        refine ⟨rfl, by show 2 ≤ sizeLine; decide, fun t nt => ⟨t, rfl, ⟨_, SqT.of upd_same⟩, ?_⟩⟩
        have st := same_new (o := .tup [V.int 0, V.int 1]) nt
        refine ⟨fun k m H' => k + m = 2 ∧ ∃ es', H' D = some (.lst es') ∧ Paired (DKV H') es' ((css.take j).flatMap (two pl) ++ (two pl ks).take k) ∧ Same H H' ∧ H' L = some (.lst ds) ∧ Paired (DKV H') ds css ∧ H' sa = some (.tup (P.map V.int)) ∧ H' t = some (.tup [V.int 0, V.int 1]) ∧ H' a = some (.dK (kvOf ks)), ⟨2, rfl, es, st _ _ hD5, by rw [List.take_zero, List.append_nil]; exact dks_same st hes, s5.trans st, st _ _ hL5, dks_same st hds5, st _ _ hsa5, upd_same, st _ _ ha⟩, ?_⟩
        rintro k m6 H6 ⟨ek, es', hD6, hes6, s6, hL6, hds6, hsa6, ht6, ha6⟩
        by_cases hk : k < 2
        · obtain ⟨b, eb⟩ : ∃ b : Bool, [V.int 0, V.int 1][k]? = some (.int (sideI b)) ∧ (two pl ks)[k]? = some (ks ++ [(pl, b)]) := by
            match k, hk with
            | 0, _ => exact ⟨false, rfl, rfl⟩
            | 1, _ => exact ⟨true, rfl, rfl⟩
          refine .inr ⟨⟨_, _, SqT.of ht6, eb.1⟩, fun H' => ∃ es', H' D = some (.lst es') ∧ Paired (DKV H') es' ((css.take j).flatMap (two pl) ++ (two pl ks).take (k + 1)) ∧ Same H H' ∧ H' L = some (.lst ds) ∧ Paired (DKV H') ds css ∧ H' sa = some (.tup (P.map V.int)) ∧ H' t = some (.tup [V.int 0, V.int 1]) ∧ H' a = some (.dK (kvOf ks)), fun H' n' => ⟨m6 - 1, by omega, by omega, n'⟩, fun x H7 hy => ?_⟩
          obtain ⟨rfl, fy⟩ := hy
          have ey : [V.int 0, V.int 1][k]? = some x := fy _ (SqT.of ht6)
          rw [eb.1] at ey
          cases ey
          have les' : es'.length ≤ 130 := by
            have h1 := Paired.length hes6
            have h2 := Paired.length hes
            rw [List.length_append, List.length_take, ← h2] at h1
            have : (two pl ks).length = 2 := rfl
            omega
          refine ⟨rfl, fun d nd => ⟨.ref a, rfl, a, kvOf ks, rfl, ?_, ?_, upd_same, by rw [kvOf_len]; omega, fun r nr => ?_⟩⟩
          · exact same_new nd _ _ ha6
          · intro z
            rw [z, nd] at ha6
            cases ha6
          have em : mergeK [] (kvOf ks) = kvOf ks := kvOf_merge ks [] nk
          rw [em] at nr ⊢
          have dr : d ≠ r := fun z => by rw [z, upd_same] at nr; cases nr
          have nr0 : H7 r = none := by
            rw [upd_ne (Ne.symm dr), upd_ne (Ne.symm dr)] at nr
            exact nr
          refine ⟨.int pl, rfl, .int (sideI b), rfl, Sum.inl pl, kvOf ks, rfl, by rw [upd_ne dr]; exact upd_same, by rw [kvOf_len]; omega, upd_same, dr, ?_⟩
          rw [kvOf_put npl]
          have s7 : Same H7 (upd (upd (upd (upd (upd H7 d (.dK [])) d (.dK (kvOf ks))) r (.dK [])) r (.dK [(Sum.inl pl, .int (sideI b))])) d (.dK (kvOf (ks ++ [(pl, b)])))) := fun q o e => by
            rw [upd_ne (ne_of_none e nd), upd_ne (ne_of_none e nr0), upd_ne (ne_of_none e nr0), upd_ne (ne_of_none e nd), upd_ne (ne_of_none e nd)]
            exact e
          have hd7 : (upd (upd (upd (upd (upd H7 d (.dK [])) d (.dK (kvOf ks))) r (.dK [])) r (.dK [(Sum.inl pl, .int (sideI b))])) d (.dK (kvOf (ks ++ [(pl, b)])))) d = some (.dK (kvOf (ks ++ [(pl, b)]))) := upd_same
          generalize (upd (upd (upd (upd (upd H7 d (.dK [])) d (.dK (kvOf ks))) r (.dK [])) r (.dK [(Sum.inl pl, .int (sideI b))])) d (.dK (kvOf (ks ++ [(pl, b)])))) = H8 at s7 hd7
          have hD8 := s7 _ _ hD6
          have tkL : ∀ b o, (∀ ys, o ≠ .lst ys) → H8 b = some o → upd H8 D (.lst (es' ++ [.ref d])) b = some o := fun b o hne e => by
            rw [upd_ne (fun z => by rw [z, hD8] at e; exact hne _ (Option.some.inj e).symm)]
            exact e
          refine ⟨es', hD8, by show es'.length < sizeLine; exact small1000 (by omega), es' ++ [.ref d], upd_same, ?_, fun b o e => ?_, ?_, dks_lst hD8 (dks_same s7 hds6), tkL _ _ (fun _ z => by cases z) (s7 _ _ hsa6), tkL _ _ (fun _ z => by cases z) (s7 _ _ ht6), tkL _ _ (fun _ z => by cases z) (s7 _ _ ha6)⟩
          · rw [List.take_add_one, eb.2, ← List.append_assoc]
            exact Paired.snoc (dks_lst hD8 (dks_same s7 hes6)) ⟨d, rfl, tkL _ _ (fun _ z => by cases z) hd7⟩
          · rw [upd_ne (ne_of_none e nD0)]
            exact s7 _ _ (s6 _ _ e)
          · rw [upd_ne (fun z => ?_)]
            · exact s7 _ _ hL6
            · rw [z, nD] at hL
              cases hL
        · have e2 : k = 2 := by omega
          subst e2
          refine .inl ⟨⟨_, SqT.of ht6, Nat.le_refl _⟩, es', hD6, ?_, s6, hL6, hds6, hsa6⟩
          rw [etk2]
          exact hes6
      · refine .inl ⟨⟨_, SqL.of hL5, by omega⟩, ?_⟩
        rw [List.take_of_length_le (by omega)] at hes
        refine ⟨_, D, es, rfl, s5, nD0, hD5, ?_, hsa5⟩
        rw [etk, chF_snoc, hcs]
        exact hes
    · rintro σ' H4 ⟨y2, L, ds, rfl, s4, nL, hL, hds, _⟩
      rw [List.length_map, List.take_length] at hds
      exact ⟨.ref L, rfl, q L ds _ s4 nL hL hds⟩
end
/-! ### least mends: the least of a part -/
def cOf (ks : List Nb) : Int → Bool := fun p => decide ((p, true) ∈ ks)
theorem cOf_at {ks : List Nb} (nd : (ks.map (·.1)).Nodup) {p : Int} {b : Bool} (h : (p, b) ∈ ks) : cOf ks p = b := by
  cases b with
  | true => exact decide_eq_true h
  | false =>
    refine decide_eq_false fun h2 => ?_
    have e1 := kvOf_some nd h
    have e2 := kvOf_some nd h2
    rw [e1] at e2
    cases e2
theorem cOf_in {ks : List Nb} {P : List Int} (nd : P.Nodup) (e : ks.map (·.1) = P) {p : Int} (h : p ∈ P) : (p, cOf ks p) ∈ ks := by
  rw [← e] at h nd
  obtain ⟨⟨a, b⟩, m, rfl⟩ := List.mem_map.mp h
  rw [cOf_at nd m]
  exact m
theorem cOf_map {P : List Int} (nd : P.Nodup) (c : Int → Bool) {p : Int} (h : p ∈ P) : cOf (P.map fun p => (p, c p)) p = c p := by
  refine cOf_at ?_ (List.mem_map.mpr ⟨p, h, rfl⟩)
  rw [List.map_map, show (Prod.fst ∘ fun p => (p, c p)) = (id : Int → Int) from rfl, List.map_id]
  exact nd
theorem lex_of_all {ts : List Tie} {g : Int → Int} {es : List Int} {p0 : Int} {P : List Int} (nd : (p0 :: P).Nodup) (cl : ∀ e ∈ es, (tieAt ts e).one ∈ p0 :: P ∧ (tieAt ts e).other ∈ p0 :: P) {x : WL}
    (hx : x ∈ (chF [[(p0, false)]] P).map fun ks => valF ts g (cOf ks) es) (hle : ∀ y ∈ (chF [[(p0, false)]] P).map fun ks => valF ts g (cOf ks) es, ltW y x = false) : LexMin ts g es x := by
  obtain ⟨ks, _, rfl⟩ := List.mem_map.mp hx
  refine ⟨⟨_, rfl⟩, fun d => ?_⟩
  obtain ⟨d', e1, e2⟩ : ∃ d' : Int → Bool, d' p0 = false ∧ badF ts d' es = badF ts d es := by
    cases hd : d p0 with
    | false => exact ⟨d, hd, rfl⟩
    | true => exact ⟨fun p => !d p, by show (!d p0) = false; rw [hd]; rfl, badF_flip ts d es⟩
  have cov := chF_cov d' P [p0] [[(p0, false)]] (by rw [List.map_cons, List.map_nil, e1]; exact List.mem_singleton.mpr rfl)
  have h := hle _ (List.mem_map.mpr ⟨_, cov, rfl⟩)
  have e3 : badF ts (cOf (([p0] ++ P).map fun p => (p, d' p))) es = badF ts d es := by
    rw [← e2]
    exact badF_congr cl fun p hp => cOf_map nd d' hp
  unfold valF at h ⊢
  rw [e3] at h
  exact h
def badF0 (ts : List Tie) (c : Int → Bool) (es : List Int) (k : Nat) : List Int := badF ts c (es.take k)
def spLeastOf (Ps : List Addr) : Sp := fun vs H Q _ => ∃ (wv gv : V) (p t : Addr) (n : Nat) (ts : List Tie) (g : Int → Int) (P : List Int), vs = [wv, gv, .ref p, .ref t] ∧ WebAt H wv n ts ∧ WebOk n ts ∧ P ∈ partsTo ts n n ∧ P.length ≤ 8 ∧ Wts H gv (tiesIn ts P) g ∧ NoD H p (P.map V.int) ∧ H t = some (.tup ((tiesIn ts P).map V.int)) ∧ Tabs Ps H ∧
  ∀ v x H', Kt Ps H H' → WLV H' v x → LexMin ts g (tiesIn ts P) x → Q v H'
theorem Wts.sub {H : Hp} {v : V} {ns ms : List Int} {g : Int → Int} (h : Wts H v ns g) (s : ∀ x ∈ ms, x ∈ ns) : Wts H v ms g := by
  rcases h with ⟨e, h⟩ | ⟨a, ws, e, h1, h2⟩
  · exact .inl ⟨e, fun x hx => h x (s x hx)⟩
  · exact .inr ⟨a, ws, e, h1, fun x hx => h2 x (s x hx)⟩
theorem dks_kt {Ps : List Addr} {H H' : Hp} (k : Kt Ps H H') (T : Tabs Ps H) {vs : List V} {css : List (List Nb)} (h : Paired (DKV H) vs css) : Paired (DKV H') vs css := Paired.mono (fun _ _ ⟨a, e, h⟩ => ⟨a, e, k.dct T h⟩) h
section
variable {P : Program} {w : World} {K : PySem.W.Frag} {mg : Str → Option Value} {base : Heap}
set_option maxHeartbeats 8000000 in
theorem ok_least_of_part {f : Addr} {fd : FuncData} {Ps : List Addr} (F : Fun K "least_of_part" "least_of_part" s_least_of_part f fd) (M : Free mg) (m_min : mg "min" = none) (D_all_sides : Df P w K mg base 1 "all_sides" ["part"] spAllSides) (D_breaks : Df P w K mg base 1 "breaks" ["sides", "tie"] spBreaksD) (D_mend_weight : Df P w K mg base 3 "mend_weight" ["weights", "ties"] (spMend Ps)) : FnOk P w K mg base CX0 4 f fd ["web", "weights", "part", "ties"] (spLeastOf Ps) := by
  obtain ⟨f_all_sides, fd_all_sides, G_all_sides, g_all_sides, k_all_sides, b_all_sides⟩ := D_all_sides
  obtain ⟨f_breaks, fd_breaks, G_breaks, g_breaks, k_breaks, b_breaks⟩ := D_breaks
  obtain ⟨f_mend_weight, fd_mend_weight, G_mend_weight, g_mend_weight, k_mend_weight, b_mend_weight⟩ := D_mend_weight
  refine F.ok sc_least_of_part (fun vs H Q E h => ?_) (fun cdv A outer s H vs Q E hr h => ?_)
  · obtain ⟨wv, gv, p, t, n, ts, g, P, rfl, _⟩ := h
    rfl
  · obtain ⟨wv, gv, p, t, n, ts, g, P, rfl, hW, ok, hPm, l8, hw, hp, ht, hT, q⟩ := h
    refine ⟨_, (pss_cons (ps_set (i := 4) sc_least_of_part.nd rfl (.inl rfl) (pe_lst pa_nil))
      (pss_cons (ps_for PassesOwn.never rfl (pi_list (pe_call G_all_sides (hr.mono (by decide)) (by rfl) g_all_sides k_all_sides b_all_sides .nil pass0 (pa_cons (pv 2) pa_nil))) (pg_name (i := 5) sc_least_of_part.nd rfl (.inr rfl))
        (pss_cons (ps_set (i := 6) sc_least_of_part.nd rfl (.inl rfl) (pe_callTy call_tuple_of (by rfl) M.tuple (by decide +kernel) (pa_cons (pe_lc (own := [("tie", 7)]) (g := (gName 7)) (te := tVar 7) rfl sc_least_of_part.nd (pi_tup (pv 3)) (blkOk_by (N := N_least_of_part) (sc := defScope s_least_of_part) (own := [("tie", 7)]) (by decide +kernel)) (fun _ _ _ _ _ => (pg_name (i := 7) sc_least_of_part.nd rfl (.inl rfl))) (fun _ _ _ _ _ => (pts_one (pt_val (pe_call G_breaks (hr.mono (by decide)) (by rfl) g_breaks k_breaks b_breaks .nil pass0 (pa_cons (pv 5) (pa_cons (pe_ix (r := rIxT K) ix_tup (pe_ix (r := rIxT K) ix_tup (pv 0) pe_int (fun _ _ => rfl)) (pv 7) (fun _ _ => rfl)) pa_nil)))))) (fun _ _ _ _ _ => (pv 7))) pa_nil)))
        (pss_one (ps_expr (pe_bm PySem.F.plainAttrs_list PySem.F.slot_list_append PySem.F.type_list_append mt_append (pv 4) (pa_cons (pe_tup (pa_cons (pe_call G_mend_weight (hr.mono (by decide)) (by rfl) g_mend_weight k_mend_weight b_mend_weight .nil pass0 (pa_cons (pv 1) (pa_cons (pv 6) pa_nil))) (pa_cons (pv 6) pa_nil))) pa_nil))))))
      (pss_one (ps_ret (pe_callB (cr_minW rfl (room65 hr)) (by rfl) m_min (by decide +kernel) (pa_cons (pv 4) pa_nil)))))), ?_⟩
    have pt := parts_of_web ok.ok
    have cl := tiesIn_cl pt hPm
    have nd : P.Nodup := (part_pw hPm).imp fun {a b} h => by omega
    obtain ⟨p0, P', eP⟩ := List.exists_cons_of_ne_nil (part_ne hPm)
    have lt := tiesIn_len ts P
    have few := ok.few
    obtain ⟨wa, wb, us, rfl, hwa, hwb, hpu⟩ := id hW
    have lus : us.length = ts.length := Paired.length hpu
    refine ⟨Nat.zero_le _, fun L nL => ?_⟩
    have s1 := same_new (o := .lst []) nL
    have hL := upd_same (H := H) (a := L) (o := .lst [])
    generalize upd H L (.lst []) = H1 at s1 hL
    have k1 := Kt.same hT s1
    refine ⟨.ref p, rfl, p, p0, P', rfl, by rw [← eP]; exact hp.same s1, by rw [← eP]; exact nd, by rw [eP, List.length_cons] at l8; omega, fun La ds H2 s2 nLa hLa hds => ?_⟩
    have k2 := k1.trans (Kt.same k1.tab s2)
    have T2 := k2.tab
    have LaL : La ≠ L := fun z => by rw [z, hL] at nLa; cases nLa
    refine ⟨La, rfl, ⟨_, SqL.of hLa⟩, ?_⟩
    have ck := chF_keys P' [p0] [[(p0, false)]] (fun ks hk => by rw [List.mem_singleton.mp hk]; rfl)
    have clen := chF_len P' [[(p0, false)]]
    have c128 : (chF [[(p0, false)]] P').length ≤ 128 := by
      rw [clen]
      have h7 : P'.length ≤ 7 := by rw [eP, List.length_cons] at l8; omega
      have : 2 ^ P'.length ≤ 2 ^ 7 := Nat.pow_le_pow_right (by decide) h7
      simpa using this
    have cne : chF [[(p0, false)]] P' ≠ [] := fun z => by
      have := chF_cov (fun _ => false) P' [p0] [[(p0, false)]] (List.mem_singleton.mpr rfl)
      rw [z] at this
      cases this
    have lex := fun x => lex_of_all (x := x) (g := g) (by rw [← eP]; exact nd) (by rw [← eP]; exact cl)
    have ck : ∀ ks ∈ chF [[(p0, false)]] P', ks.map (·.1) = P := fun ks hk => by rw [ck ks hk, eP]; rfl
    generalize chF [[(p0, false)]] P' = css at hds c128 cne lex ck
    have lds : ds.length = css.length := Paired.length hds
    refine for_list (xs := ds) (fun i σ' H' => ∃ (y5 y6 y7 : Option V) (rows : List V), σ' = [some (.ref wa), some gv, some (.ref p), some (.ref t), some (.ref L), y5, y6, y7] ∧ Kt Ps H H' ∧ H' La = some (.lst ds) ∧ Paired (DKV H') ds css ∧ H' L = some (.lst rows) ∧ Paired (WLV H') rows ((css.take i).map fun ks => valF ts g (cOf ks) (tiesIn ts P))) ⟨none, none, none, [], rfl, k2, hLa, hds, s2 _ _ hL, .nil⟩ (fun i σ' H' _ h => by
      obtain ⟨_, _, _, _, _, _, h, _⟩ := h
      exact SqL.of h) ?_ ?_
    · clear hL hLa hds k1 k2 s1 s2 T2
      rintro i x σ' H4 ex ⟨y5, y6, y7, rows, rfl, k4, hLa, hds, hL, hrows⟩
      have T4 := k4.tab
      obtain ⟨ks, eks, a, rfl, ha⟩ := Paired.at hds ex
      have ek := ck ks (List.mem_of_getElem? eks)
      have ndk : (ks.map (·.1)).Nodup := by rw [ek]; exact nd
      have il := (List.getElem?_eq_some_iff.mp eks).1
      refine ⟨.ref t, rfl, t, rfl, ⟨_, SqT.of (k4.tup hT ht)⟩, fun Z nZ => ?_⟩
      refine lc_tup (xs := (tiesIn ts P).map V.int) (fun j H' => H' Z = some (.lst ((badF0 ts (cOf ks) (tiesIn ts P) j).map V.int)) ∧ Same H4 H') ⟨upd_same, same_new nZ⟩ (fun j H' _ h => SqT.of (h.2 _ _ (k4.tup hT ht))) ?_ ?_
      · rintro j x H5 ej ⟨hZ, s5⟩
        obtain ⟨e, ee, rfl⟩ : ∃ e, (tiesIn ts P)[j]? = some e ∧ x = .int e := by
          rw [List.getElem?_map] at ej
          cases hP : (tiesIn ts P)[j]? with
          | none => rw [hP] at ej; cases ej
          | some pl => rw [hP] at ej; exact ⟨pl, rfl, (Option.some.inj ej).symm⟩
        have em := List.mem_of_getElem? ee
        have er := (tiesIn_mem.mp em).1
        have jl := (List.getElem?_eq_some_iff.mp ee).1
        obtain ⟨ut, eut, euo⟩ := getI (xs := us) er.1 (by omega)
        obtain ⟨t', et', cc, rfl, hcc⟩ := Paired.at hpu euo
        have ett : tieAt ts e = t' := by
          have := tieAt_of et'
          rw [Int.toNat_of_nonneg er.1] at this
          exact this
        rw [← ett] at hcc
        have h1 := cOf_in nd ek (cl e em).1
        have h2 := cOf_in nd ek (cl e em).2
        refine ⟨rfl, .ref a, rfl, .ref wa, rfl, wa, _, 1, .ref wb, rfl, rfl, SqT.of (s5 _ _ (k4.tup hT hwa)), rfl, .int e, rfl, wb, us, e, .ref cc, rfl, rfl, SqT.of (s5 _ _ (k4.tup hT hwb)), eut, a, cc, ks, tieAt ts e, _, _, rfl, s5 _ _ ha, ndk, h1, h2, s5 _ _ (k4.tup hT hcc), _, rfl, ?_⟩
        have eb : badF0 ts (cOf ks) (tiesIn ts P) (j + 1) = badF0 ts (cOf ks) (tiesIn ts P) j ++ (if brkF (cOf ks) (tieAt ts e) = true then [e] else []) := by
          unfold badF0 badF
          rw [List.take_add_one, ee, List.filter_append]
          congr 1
          show [e].filter _ = _
          cases hb : brkF (cOf ks) (tieAt ts e) with
          | true => rw [List.filter_cons, hb]; rfl
          | false => rw [List.filter_cons, hb]; rfl
        have lb : (badF0 ts (cOf ks) (tiesIn ts P) j).length ≤ 120 := by
          unfold badF0 badF
          have h1 := List.length_filter_le (fun e => brkF (cOf ks) (tieAt ts e)) ((tiesIn ts P).take j)
          rw [List.length_take] at h1
          omega
        rw [eb]
        show if brkF (cOf ks) (tieAt ts e) = true then _ else _
        cases hb : brkF (cOf ks) (tieAt ts e) with
        | true =>
          rw [if_pos rfl, if_pos rfl]
          refine ⟨.int e, rfl, _, hZ, by rw [List.length_map]; exact small1000 (by omega), ?_, fun b o e => by rw [upd_ne (ne_of_none e nZ)]; exact s5 b o e⟩
          rw [upd_same, List.map_append]
          rfl
        | false =>
          rw [if_neg Bool.false_ne_true, if_neg Bool.false_ne_true, List.append_nil]
          exact ⟨hZ, s5⟩
      · rintro H5 ⟨hZ, s5⟩
        have ebt : badF0 ts (cOf ks) (tiesIn ts P) ((tiesIn ts P).map V.int).length = badF ts (cOf ks) (tiesIn ts P) := by
          unfold badF0
          rw [List.length_map, List.take_length]
        rw [ebt] at hZ
        refine ⟨Z, _, rfl, .inl ⟨SqL.of hZ, fun bt nbt => ?_⟩⟩
        have s6 := s5.trans (same_new (o := .tup ((badF ts (cOf ks) (tiesIn ts P)).map V.int)) nbt)
        have hbt := upd_same (H := H5) (a := bt) (o := .tup ((badF ts (cOf ks) (tiesIn ts P)).map V.int))
        generalize upd H5 bt (.tup ((badF ts (cOf ks) (tiesIn ts P)).map V.int)) = H6 at s6 hbt
        have k6 := k4.trans (Kt.same T4 s6)
        have T6 := k6.tab
        have lrows : rows.length ≤ 128 := by
          have h1 := Paired.length hrows
          rw [List.length_map, List.length_take] at h1
          omega
        refine ⟨.ref L, rfl, .inl ⟨rfl, _, SqL.of (s6 _ _ hL)⟩, gv, rfl, .ref bt, rfl, gv, bt, badF ts (cOf ks) (tiesIn ts P), g, rfl, .inl hbt, (hw.tk (k6.tk hT)).sub (fun x hx => (List.mem_filter.mp hx).1), T6, fun H7 k7 => ?_⟩
        have k7' := k6.trans k7
        have hL7 := k7.lst T6 (s6 _ _ hL)
        refine ⟨.ref bt, rfl, by show 2 ≤ sizeLine; decide, fun r nr => ?_⟩
        have s8 := same_new (o := .tup [.int (sumW g (badF ts (cOf ks) (tiesIn ts P))), .ref bt]) nr
        have hr8 := upd_same (H := H7) (a := r) (o := .tup [.int (sumW g (badF ts (cOf ks) (tiesIn ts P))), .ref bt])
        generalize upd H7 r (.tup [.int (sumW g (badF ts (cOf ks) (tiesIn ts P))), .ref bt]) = H8 at s8 hr8
        have k8 := k7'.trans (Kt.same k7'.tab s8)
        have hL8 := s8 _ _ hL7
        refine ⟨L, rows, .ref r, rfl, rfl, hL8, small1000 (by omega), ?_⟩
        have tkL := tk_lst (ys := rows ++ [.ref r]) hL8
        have kt48 : Kt Ps H4 H8 := (Kt.same T4 s6).trans (k7.trans (Kt.same k7.tab s8))
        refine ⟨_, _, _, _, rfl, k8.mutN hT nL, ?_, dks_lst hL8 (dks_kt kt48 T4 hds), upd_same, ?_⟩
        · rw [upd_ne LaL]
          exact kt48.lst T4 hLa
        · rw [List.take_add_one, eks, List.map_append]
          exact Paired.snoc (wls_tk tkL (wls_tk (kt48.tk T4) hrows)) ⟨r, bt, rfl, tkL _ _ hr8, tkL _ _ (s8 _ _ (k7.tup T6 hbt))⟩
    · rintro σ' H4 ⟨y5, y6, y7, rows, rfl, k4, _, _, hL, hrows⟩
      rw [lds, List.take_length] at hrows
      refine ⟨.ref L, rfl, L, rows, _, rfl, SqL.of hL, hrows, fun z => cne (List.map_eq_nil_iff.mp z), fun x xp hx hm hle => ?_⟩
      exact q x xp H4 k4 hx (lex xp hm hle)
end
/-! ### least mends: the least mend -/
theorem okD {P : Program} {w : World} {K : PySem.W.Frag} {mg : Str → Option Value} {base : Heap} {x qual : Str} {st : Stmt} {f : Addr} {fd : FuncData} {N ps : List Str} {k : Nat} {sp : Sp} {dvs : List V} (F : FunD K x qual (defArgs st) (defBody st) (defScope st) dvs [] f fd) (S : FnScope N ps (defScope st)) (len : ∀ vs H Q E, sp vs H Q E → vs.length = ps.length)
    (hbody : ∀ (cdv : Value) (A : PySem.Around) (outer : List Env) (s : Shared) (H : Hp) (vs : List V) (Q : VK) (E : XK), Room k (A.deeper (envOfC qual (defScope st) s.heap.objs.size f cdv)) → sp vs H Q E →
      ∃ t, PSs (cxOf CX0 P w K mg base N qual (defScope st) f cdv A outer s H E).nox (defBody st) t ∧ t { nx := fun _ H' => Q .non H', rt := Q } (start N vs) H) : FnOk P w K mg base CX0 (k + 1) f fd ps sp :=
  FunD.ok F S len fun cdv A outer s H vs Q E hr hsp => by
    obtain ⟨t, h, q⟩ := hbody cdv A outer s H vs Q E hr hsp
    exact ⟨t, h.nox, q⟩
def spLeastMend (Ps : List Addr) : Sp := fun vs H Q _ => ∃ (wv gv : V) (n : Nat) (ts : List Tie) (g : Int → Int), vs = [wv, gv] ∧ WebAt H wv n ts ∧ WebOk n ts ∧ (∀ P ∈ partsTo ts n n, oddF ts P = true → P.length ≤ 8) ∧ Wts H gv (rng ts.length) g ∧ (∀ e ∈ rng ts.length, 1 ≤ g e) ∧ Tabs Ps H ∧
  ∀ v c xs H', Kt Ps H H' → ToldL ts n g xs c → WLV H' v (sumW g (badF ts c (rng ts.length)), badF ts c (rng ts.length)) → Q v H'
theorem badF_rising (ts : List Tie) (c : Int → Bool) (n : Nat) : (badF ts c (rng n)).Pairwise (· < ·) := (rng_rising n).filter _
theorem rise_of_le {ns ms : List Int} (h : ns.Pairwise (· ≤ ·)) (p : ns.Perm ms) (r : ms.Pairwise (· < ·)) : ns = ms := by
  have nd : ns.Nodup := p.nodup_iff.mpr (r.imp fun {a b} h => by omega)
  have lt : ns.Pairwise (· < ·) := (h.and nd).imp fun {a b} ⟨h1, h2⟩ => by
    have : a ≠ b := h2
    omega
  exact rising_ext lt r fun z => p.mem_iff
section
variable {P : Program} {w : World} {K : PySem.W.Frag} {mg : Str → Option Value} {base : Heap}
set_option maxHeartbeats 8000000 in
theorem ok_least_mend {f : Addr} {fd : FuncData} {Ps : List Addr} (F : FunD K "least_mend" "least_mend" (defArgs s_least_mend) (defBody s_least_mend) (defScope s_least_mend) [.non] [] f fd) (M : Free mg) (m_sorted : mg "sorted" = none) (D_small_odd_parts : Df P w K mg base 6 "small_odd_parts" ["web"] (spSmallOdd Ps)) (D_least_of_part : Df P w K mg base 4 "least_of_part" ["web", "weights", "part", "ties"] (spLeastOf Ps)) (D_mend_weight : Df P w K mg base 3 "mend_weight" ["weights", "ties"] (spMend Ps)) : FnOk P w K mg base CX0 7 f fd ["web", "weights"] (spLeastMend Ps) := by
  obtain ⟨f_small_odd_parts, fd_small_odd_parts, G_small_odd_parts, g_small_odd_parts, k_small_odd_parts, b_small_odd_parts⟩ := D_small_odd_parts
  obtain ⟨f_least_of_part, fd_least_of_part, G_least_of_part, g_least_of_part, k_least_of_part, b_least_of_part⟩ := D_least_of_part
  obtain ⟨f_mend_weight, fd_mend_weight, G_mend_weight, g_mend_weight, k_mend_weight, b_mend_weight⟩ := D_mend_weight
  refine okD F sc_least_mend (fun vs H Q E h => ?_) (fun cdv A outer s H vs Q E hr h => ?_)
  · obtain ⟨wv, gv, n, ts, g, rfl, _⟩ := h
    rfl
  · obtain ⟨wv, gv, n, ts, g, rfl, hW, ok, hb8, hw, gp, hT, q⟩ := h
    refine ⟨_, (pss_cons (ps_set (i := 2) sc_least_mend.nd rfl (.inl rfl) (pe_lst pa_nil))
      (pss_cons (ps_for PassesOwn.never rfl (pi_list (pe_call G_small_odd_parts (hr.mono (by decide)) (by rfl) g_small_odd_parts k_small_odd_parts b_small_odd_parts .nil pass0 (pa_cons (pv 0) pa_nil))) (pg_tup rfl (pgs_cons (pg_name (i := 3) sc_least_mend.nd rfl (.inl rfl)) (pgs_cons (pg_name (i := 4) sc_least_mend.nd rfl (.inl rfl)) pgs_nil)))
        (pss_one (ps_expr (pe_bm PySem.F.plainAttrs_list PySem.F.slot_list_extend PySem.F.type_list_extend mt_extendT (pv 2) (pa_cons (pe_ix ix_tup (pe_call G_least_of_part (hr.mono (by decide)) (by rfl) g_least_of_part k_least_of_part b_least_of_part .nil pass0 (pa_cons (pv 0) (pa_cons (pv 1) (pa_cons (pv 3) (pa_cons (pv 4) pa_nil))))) pe_int (fun _ _ => rfl)) pa_nil)))))
      (pss_one (ps_ret (pe_tup (pa_cons (pe_call G_mend_weight (hr.mono (by decide)) (by rfl) g_mend_weight k_mend_weight b_mend_weight .nil pass0 (pa_cons (pv 1) (pa_cons (pv 2) pa_nil))) (pa_cons (pe_callTy call_tuple_of (by rfl) M.tuple (by decide +kernel) (pa_cons (pe_callB cr_sortedI (by rfl) m_sorted (by decide +kernel) (pa_cons (pv 2) pa_nil)) pa_nil)) pa_nil))))))), ?_⟩
    have pt := parts_of_web ok.ok
    have few := ok.few
    have hi40 := ok.hi
    have lpt := partsTo_len ts n n
    refine ⟨Nat.zero_le _, fun L nL => ?_⟩
    have s1 := same_new (o := .lst []) nL
    have hL := upd_same (H := H) (a := L) (o := .lst [])
    generalize upd H L (.lst []) = H1 at s1 hL
    have k1 := Kt.same hT s1
    refine ⟨wv, rfl, wv, n, ts, rfl, hW.tk (Same.tk s1), ok, hb8, k1.tab, fun R rows H2 k12 nR hR hrows => ?_⟩
    have k2 := k1.trans k12
    have RL : R ≠ L := fun z => by rw [z, hL] at nR; cases nR
    refine ⟨R, rfl, ⟨_, SqL.of hR⟩, ?_⟩
    have lrows := Paired.length hrows
    have lf := List.length_filter_le (oddF ts) (partsTo ts n n)
    refine for_list (xs := rows) (fun i σ' H' => ∃ (y3 y4 : Option V) (ys : List WL), σ' = [some wv, some gv, some (.ref L), y3, y4] ∧ Kt Ps H H' ∧ H' R = some (.lst rows) ∧ Paired (RowQ H' ts) rows ((partsTo ts n n).filter (oddF ts)) ∧ H' L = some (.lst ((ys.flatMap (·.2)).map V.int)) ∧ Paired (fun P x => LexMin ts g (tiesIn ts P) x) (((partsTo ts n n).filter (oddF ts)).take i) ys ∧ (ys.flatMap (·.2)).length ≤ i * 120) ⟨none, none, [], rfl, k2, hR, hrows, k12.lst k1.tab hL, .nil, Nat.le_refl _⟩ (fun i σ' H' _ h => by
      obtain ⟨_, _, _, _, _, h, _⟩ := h
      exact SqL.of h) ?_ ?_
    · clear hL hR hrows k1 k2 s1 k12
      rintro i x σ' H4 ex ⟨y3, y4, ys, rfl, k4, hR, hrows, hL, hys, lys⟩
      have T4 := k4.tab
      obtain ⟨P', eP, a, p, t, rfl, ha, hp, ht⟩ := Paired.at hrows ex
      obtain ⟨hPm, od⟩ := List.mem_filter.mp (List.mem_of_getElem? eP)
      have il := (List.getElem?_eq_some_iff.mp ex).1
      refine ⟨a, _, rfl, SqT.of ha, rfl, _, _, rfl, _, _, rfl, rfl, ?_⟩
      refine ⟨.ref L, rfl, .inl ⟨rfl, _, SqL.of hL⟩, wv, rfl, gv, rfl, .ref p, rfl, .ref t, rfl, wv, gv, p, t, n, ts, g, P', rfl, hW.tk (k4.tk hT), ok, hPm, hb8 P' hPm od, (hw.tk (k4.tk hT)).sub (fun x hx => mem_rng.mpr (tiesIn_mem.mp hx).1), hp, ht, T4, fun v x H5 k45 hv hx => ?_⟩
      obtain ⟨b, z, rfl, hb, hz⟩ := hv
      have k5 := k4.trans k45
      have hL5 := k45.lst T4 hL
      have l120 : x.2.length ≤ 120 := by
        obtain ⟨c, rfl⟩ := hx.ex
        have h1 := List.length_filter_le (fun e => brkF c (tieAt ts e)) (tiesIn ts P')
        have h2 := tiesIn_len ts P'
        show (badF ts c (tiesIn ts P')).length ≤ 120
        unfold badF
        omega
      refine ⟨b, _, 1, .ref z, rfl, rfl, SqT.of hb, rfl, L, z, _, _, rfl, rfl, hL5, SqT.of hz, ?_, ?_⟩
      · rw [List.length_map, List.length_map]
        have : i * 120 ≤ 40 * 120 := Nat.mul_le_mul_right _ (by omega)
        have e : sizeLine = 16777216 := by decide
        omega
      · have tkL := tk_lst (ys := (ys.flatMap (·.2)).map V.int ++ x.2.map V.int) hL5
        refine ⟨_, _, ys ++ [x], rfl, k5.mutN hT nL, ?_, rowsQ_tk tkL (rowsQ_tk (k45.tk T4) hrows), ?_, ?_, ?_⟩
        · rw [upd_ne RL]
          exact k45.lst T4 hR
        · rw [upd_same, List.flatMap_append, List.map_append]
          simp
        · rw [List.take_add_one, eP]
          exact Paired.snoc hys hx
        · rw [List.flatMap_append, List.length_append]
          simp only [List.flatMap_cons, List.flatMap_nil, List.append_nil]
          omega
    · rintro σ' H4 ⟨y3, y4, ys, rfl, k4, _, _, hL, hys, lys⟩
      rw [lrows, List.take_length] at hys
      have T4 := k4.tab
      obtain ⟨xs, hxs, exs⟩ := lex_fill (ts := ts) (g := g) (f := oddF ts) (fun P hP h0 => by
        have ne := @of_decide_eq_false _ (_) h0
        obtain ⟨c, hc⟩ := Classical.not_not.mp ne
        exact LexMin.zero (fun e he => gp e (mem_rng.mpr (tiesIn_mem.mp he).1)) hc) hys
      obtain ⟨c, told⟩ := told_of_lex ok.ok hxs
      have pm : (ys.flatMap (·.2)).Perm (badF ts c (rng ts.length)) := by
        rw [← exs]
        exact told.perm
      refine ⟨gv, rfl, .ref L, rfl, gv, L, ys.flatMap (·.2), g, rfl, .inr hL, (hw.tk (k4.tk hT)).sub (fun x hx => (List.mem_filter.mp (pm.mem_iff.mp hx)).1), T4, fun H5 k45 => ?_⟩
      have k5 := k4.trans k45
      have hL5 := k45.lst T4 hL
      refine ⟨.ref L, rfl, L, _, rfl, SqL.of hL5, fun ns' s5 pn sn ns => ?_⟩
      have en : ns' = badF ts c (rng ts.length) := rise_of_le sn (pn.trans pm) (badF_rising ts c _)
      subst en
      have ss := same_new (o := .lst ((badF ts c (rng ts.length)).map V.int)) ns
      refine ⟨s5, _, rfl, .inl ⟨SqL.of upd_same, fun z nz => ?_⟩⟩
      have s6 := ss.trans (same_new (o := .tup ((badF ts c (rng ts.length)).map V.int)) nz)
      have hz := upd_same (H := upd H5 s5 (.lst ((badF ts c (rng ts.length)).map V.int))) (a := z) (o := .tup ((badF ts c (rng ts.length)).map V.int))
      generalize upd (upd H5 s5 (.lst ((badF ts c (rng ts.length)).map V.int))) z (.tup ((badF ts c (rng ts.length)).map V.int)) = H6 at s6 hz
      refine ⟨by show 2 ≤ sizeLine; decide, fun r nr => ?_⟩
      have s7 := s6.trans (same_new (o := .tup [.int (sumW g (ys.flatMap (·.2))), .ref z]) nr)
      refine q (.ref r) c xs _ (k5.trans (Kt.same k5.tab s7)) told ⟨r, z, rfl, ?_, same_new nr _ _ hz⟩
      rw [upd_same, sumW_perm pm]
end
/-! ### the law's parts: mathematics -/
open Classical in
noncomputable def leftK (ts : List Tie) (n k : Nat) : List Int := (rng n).filter fun p => decide (∀ P ∈ partsTo ts n k, p ∉ P)
theorem mem_leftK {ts : List Tie} {n k : Nat} {p : Int} : p ∈ leftK ts n k ↔ (0 ≤ p ∧ p < n) ∧ ∀ P ∈ partsTo ts n k, p ∉ P := by
  unfold leftK
  rw [List.mem_filter, mem_rng, @decide_eq_true_iff _ (_)]
theorem leftK_rising (ts : List Tie) (n k : Nat) : (leftK ts n k).Pairwise (· < ·) := (rng_rising n).filter _
theorem mem_partsTo {ts : List Tie} {n k : Nat} {P : List Int} : P ∈ partsTo ts n k ↔ ∃ m, (0 ≤ m ∧ m < (k : Int)) ∧ leader ts m ∧ P = partOf ts n m := by
  unfold partsTo
  rw [List.mem_map]
  constructor
  · rintro ⟨m, hm, rfl⟩
    rw [List.mem_filter, mem_rng, @decide_eq_true_iff _ (_)] at hm
    exact ⟨m, hm.1, hm.2, rfl⟩
  · rintro ⟨m, h1, h2, rfl⟩
    exact ⟨m, by rw [List.mem_filter, mem_rng, @decide_eq_true_iff _ (_)]; exact ⟨h1, h2⟩, rfl⟩
theorem left_lead {ts : List Tie} {n k : Nat} {m : Int} (hm : leader ts m) (h0 : 0 ≤ m ∧ m < n) (hk : (k : Int) ≤ m) : m ∈ leftK ts n k := by
  refine mem_leftK.mpr ⟨h0, fun P hP hp => ?_⟩
  obtain ⟨m', h1, h2, rfl⟩ := mem_partsTo.mp hP
  have := leader_one h2 hm (mem_part.mp hp).2 .refl
  omega
theorem left_closed {ts : List Tie} {n k : Nat} {p q : Int} (hp : p ∈ leftK ts n k) (hq : 0 ≤ q ∧ q < n) (r : Rch ts p q) : q ∈ leftK ts n k := by
  have hp := mem_leftK.mp hp
  refine mem_leftK.mpr ⟨hq, fun P hP h => hp.2 P hP ?_⟩
  obtain ⟨m', h1, h2, rfl⟩ := mem_partsTo.mp hP
  exact mem_part.mpr ⟨hp.1, (mem_part.mp h).2.trans r.symm⟩
theorem no_leads {ts : List Tie} {n k : Nat} {x : Nat} (hx : ∀ p ∈ leftK ts n k, (x : Int) ≤ p) (xn : x ≤ n) : ∀ j : Nat, k ≤ j → j ≤ x → partsTo ts n j = partsTo ts n k := by
  intro j
  induction j with
  | zero => intro h _; rw [Nat.le_zero.mp h]
  | succ j ih =>
    intro h1 h2
    by_cases e : k = j + 1
    · rw [e]
    · rw [partsTo_succ, ih (by omega) (by omega), if_neg, List.append_nil]
      intro hl
      have := hx j (left_lead hl ⟨by omega, by omega⟩ (by omega))
      omega
theorem left_done {ts : List Tie} {n k : Nat} (h : leftK ts n k = []) (hk : k ≤ n) : partsTo ts n k = partsTo ts n n :=
  (no_leads (x := n) (fun p hp => by rw [h] at hp; cases hp) (Nat.le_refl _) n hk (Nat.le_refl _)).symm
theorem left_next {ts : List Tie} {n k : Nat} (ok : ∀ t ∈ ts, TieOk n t) {x : Int} {rest : List Int} (h : leftK ts n k = x :: rest) : ∃ j : Nat, (x = (j : Int)) ∧ j < n ∧ leader ts x ∧ partsTo ts n (j + 1) = partsTo ts n k ++ [partOf ts n x] ∧ ∀ p, p ∈ leftK ts n (j + 1) ↔ p ∈ leftK ts n k ∧ ¬ Rch ts x p := by
  have hx : x ∈ leftK ts n k := by rw [h]; exact List.mem_cons_self
  have hx' := mem_leftK.mp hx
  have ris := leftK_rising ts n k
  have least : ∀ p ∈ leftK ts n k, x ≤ p := fun p hp => by
    rw [h] at hp ris
    rcases List.mem_cons.mp hp with e | e
    · omega
    · have := (List.pairwise_cons.mp ris).1 p e
      omega
  obtain ⟨m, lm, mr, mx⟩ := has_leader ok hx'.1
  have km : (k : Int) ≤ m := by
    by_cases z : m < (k : Int)
    · exact absurd (mem_part.mpr ⟨hx'.1, mx⟩) (hx'.2 _ (mem_partsTo.mpr ⟨m, ⟨mr.1, z⟩, lm, rfl⟩))
    · omega
  have e1 := least m (left_lead lm mr km)
  have e2 := lm x mx
  obtain rfl : m = x := by omega
  obtain ⟨j, rfl⟩ : ∃ j : Nat, m = (j : Int) := ⟨m.toNat, by omega⟩
  have ep : partsTo ts n (j + 1) = partsTo ts n k ++ [partOf ts n j] := by
    rw [partsTo_succ, if_pos lm, no_leads (x := j) least (by omega) j (by omega) (Nat.le_refl _)]
  refine ⟨j, rfl, by omega, lm, ep, fun p => ?_⟩
  rw [mem_leftK, mem_leftK, ep]
  constructor
  · rintro ⟨h1, h2⟩
    exact ⟨⟨h1, fun P hP => h2 P (List.mem_append_left _ hP)⟩, fun r => h2 _ (List.mem_append_right _ (List.mem_singleton.mpr rfl)) (mem_part.mpr ⟨h1, r⟩)⟩
  · rintro ⟨⟨h1, h2⟩, h3⟩
    refine ⟨h1, fun P hP hp => ?_⟩
    rcases List.mem_append.mp hP with z | z
    · exact h2 P z hp
    · rw [List.mem_singleton.mp z] at hp
      exact h3 (mem_part.mp hp).2
def extTo (ts : List Tie) (y : Int) (j : Nat) : List Int := (ts.take j).flatMap fun t => if y = t.one ∨ y = t.other then [t.one, t.other] else []
theorem extTo_succ {ts : List Tie} {y : Int} {j : Nat} {t : Tie} (e : ts[j]? = some t) : extTo ts y (j + 1) = extTo ts y j ++ (if y = t.one ∨ y = t.other then [t.one, t.other] else []) := by
  unfold extTo
  rw [List.take_add_one, e, List.flatMap_append]
  simp
theorem extTo_len (ts : List Tie) (y : Int) (j : Nat) : (extTo ts y j).length ≤ 2 * j := by
  unfold extTo
  rw [List.length_flatMap]
  have key : ∀ us : List Tie, (us.map fun t => (if y = t.one ∨ y = t.other then [t.one, t.other] else []).length).sum ≤ 2 * us.length := fun us => by
    induction us with
    | nil => exact Nat.le_refl _
    | cons u us ih =>
      rw [List.map_cons, List.sum_cons, List.length_cons]
      have : (if y = u.one ∨ y = u.other then [u.one, u.other] else []).length ≤ 2 := by
        by_cases h : y = u.one ∨ y = u.other
        · rw [if_pos h]; exact Nat.le_refl _
        · rw [if_neg h]; exact Nat.zero_le _
      omega
  have := key (ts.take j)
  rw [List.length_take] at this
  omega
theorem mem_ext {ts : List Tie} {y q : Int} : q ∈ extTo ts y ts.length ↔ ∃ t ∈ ts, (y = t.one ∨ y = t.other) ∧ (q = t.one ∨ q = t.other) := by
  unfold extTo
  rw [List.take_length, List.mem_flatMap]
  constructor
  · rintro ⟨t, ht, h⟩
    by_cases e : y = t.one ∨ y = t.other
    · rw [if_pos e] at h
      exact ⟨t, ht, e, by simpa using h⟩
    · rw [if_neg e] at h
      cases h
  · rintro ⟨t, ht, e, h⟩
    exact ⟨t, ht, by rw [if_pos e]; simpa using h⟩
/-- one part growing: pt what is in it, wt what waits -/
structure Gro (ts : List Tie) (n : Nat) (x : Int) (lf0 lf pt wt : List Int) : Prop where
  nd : pt.Nodup
  lf : lf = lf0.filter fun p => !pt.contains p
  pin : ∀ p ∈ pt, p ∈ lf0 ∧ Rch ts x p
  win : ∀ p ∈ wt, (0 ≤ p ∧ p < n) ∧ Rch ts x p
  cl : ∀ p ∈ pt, ∀ q k, Adj ts p q k → q ∈ pt ∨ q ∈ wt
  st : x ∈ pt ∨ x ∈ wt
theorem Gro.drop {ts : List Tie} {n : Nat} {x y : Int} {lf0 lf pt wt : List Int} (g : Gro ts n x lf0 lf pt (wt ++ [y])) (h0 : ∀ q, (0 ≤ q ∧ q < (n : Int)) → Rch ts x q → q ∈ lf0) (h : y ∉ lf) : Gro ts n x lf0 lf pt wt := by
  have hy : y ∈ pt := by
    have w := g.win y (by simp)
    have := h0 y w.1 w.2
    refine Classical.byContradiction fun hn => h ?_
    rw [g.lf, List.mem_filter]
    refine ⟨this, ?_⟩
    rw [Bool.not_eq_true', Bool.eq_false_iff]
    exact fun z => hn (List.contains_iff_mem.mp z)
  refine ⟨g.nd, g.lf, g.pin, fun p hp => g.win p (List.mem_append_left _ hp), fun p hp q k ad => ?_, ?_⟩
  · rcases g.cl p hp q k ad with z | z
    · exact .inl z
    · rcases List.mem_append.mp z with z | z
      · exact .inr z
      · rw [List.mem_singleton.mp z]
        exact .inl hy
  · rcases g.st with z | z
    · exact .inl z
    · rcases List.mem_append.mp z with z | z
      · exact .inr z
      · rw [List.mem_singleton.mp z]
        exact .inl hy
theorem erase_filter {l : List Int} (r : l.Pairwise (· < ·)) {y : Int} : l.erase y = l.filter fun p => !decide (p = y) := by
  have nd : l.Nodup := r.imp fun {a b} h => by omega
  refine rising_ext (r.sublist List.erase_sublist) (r.filter _) fun z => ?_
  rw [nd.mem_erase_iff, List.mem_filter, Bool.not_eq_true', decide_eq_false_iff_not]
  exact ⟨fun ⟨a, b⟩ => ⟨b, a⟩, fun ⟨a, b⟩ => ⟨b, a⟩⟩
theorem Gro.take {ts : List Tie} {n : Nat} {x y : Int} {lf0 lf pt wt : List Int} (ok : ∀ t ∈ ts, TieOk n t) (r0 : lf0.Pairwise (· < ·)) (g : Gro ts n x lf0 lf pt (wt ++ [y])) (h : y ∈ lf) : Gro ts n x lf0 (lf.erase y) (pt ++ [y]) (wt ++ extTo ts y ts.length) := by
  have w := g.win y (by simp)
  have hy := h
  rw [g.lf, List.mem_filter, Bool.not_eq_true', Bool.eq_false_iff] at hy
  have hyp : y ∉ pt := fun z => hy.2 (List.contains_iff_mem.mpr z)
  have nb : ∀ q, q ∈ extTo ts y ts.length → (0 ≤ q ∧ q < (n : Int)) ∧ Rch ts y q := fun q hq => by
    obtain ⟨t, ht, e1, e2⟩ := mem_ext.mp hq
    have o := ok t ht
    have ad : Adj ts t.one t.other t.foe := ⟨t, ht, rfl, .inl ⟨rfl, rfl⟩⟩
    rcases e1 with rfl | rfl <;> rcases e2 with rfl | rfl
    · exact ⟨⟨o.1, o.2.1⟩, .refl⟩
    · exact ⟨⟨o.2.2.1, o.2.2.2.1⟩, Rch.adj ad⟩
    · exact ⟨⟨o.1, o.2.1⟩, (Rch.adj ad).symm⟩
    · exact ⟨⟨o.2.2.1, o.2.2.2.1⟩, .refl⟩
  refine ⟨?_, ?_, fun p hp => ?_, fun p hp => ?_, fun p hp q k ad => ?_, ?_⟩
  · rw [List.nodup_append]
    exact ⟨g.nd, by simp, fun a ha b hb e => hyp (by rw [List.mem_singleton.mp hb] at e; rw [← e]; exact ha)⟩
  · have rl : lf.Pairwise (· < ·) := by rw [g.lf]; exact r0.filter _
    rw [erase_filter rl, g.lf, List.filter_filter]
    refine List.filter_congr fun p _ => ?_
    rw [Bool.eq_iff_iff, Bool.and_eq_true, Bool.not_eq_true', Bool.not_eq_true', Bool.not_eq_true', decide_eq_false_iff_not, Bool.eq_false_iff, Bool.eq_false_iff, Ne, Ne, List.contains_iff_mem, List.contains_iff_mem, List.mem_append, List.mem_singleton]
    exact ⟨fun ⟨a, b⟩ z => z.elim b a, fun z => ⟨fun a => z (.inr a), fun a => z (.inl a)⟩⟩
  · rcases List.mem_append.mp hp with z | z
    · exact g.pin p z
    · rw [List.mem_singleton.mp z]
      exact ⟨hy.1, w.2⟩
  · rcases List.mem_append.mp hp with z | z
    · exact g.win p (List.mem_append_left _ z)
    · exact ⟨(nb p z).1, w.2.trans (nb p z).2⟩
  · rcases List.mem_append.mp hp with z | z
    · rcases g.cl p z q k ad with z | z
      · exact .inl (List.mem_append_left _ z)
      · rcases List.mem_append.mp z with z | z
        · exact .inr (List.mem_append_left _ z)
        · exact .inl (List.mem_append_right _ z)
    · rw [List.mem_singleton.mp z] at ad
      refine .inr (List.mem_append_right _ (mem_ext.mpr ?_))
      obtain ⟨t, ht, _, e⟩ := ad
      rcases e with ⟨rfl, rfl⟩ | ⟨rfl, rfl⟩
      · exact ⟨t, ht, .inl rfl, .inr rfl⟩
      · exact ⟨t, ht, .inr rfl, .inl rfl⟩
  · rcases g.st with z | z
    · exact .inl (List.mem_append_left _ z)
    · rcases List.mem_append.mp z with z | z
      · exact .inr (List.mem_append_left _ z)
      · exact .inl (List.mem_append_right _ z)
theorem Gro.all {ts : List Tie} {n : Nat} {x : Int} {lf0 lf pt : List Int} (g : Gro ts n x lf0 lf pt []) {q : Int} (r : Rch ts x q) : q ∈ pt := by
  obtain ⟨p, r⟩ := r
  induction r with
  | nil => exact g.st.elim id fun z => by cases z
  | step r ad ih => exact (g.cl _ ih _ _ ad).elim id fun z => by cases z
theorem Gro.end' {ts : List Tie} {n k j : Nat} {x : Int} {lf pt ns : List Int} (g : Gro ts n x (leftK ts n k) lf pt []) (hn : ∀ p, p ∈ leftK ts n (j + 1) ↔ p ∈ leftK ts n k ∧ ¬ Rch ts x p) (p1 : ns.Perm pt) (p2 : ns.Pairwise (· ≤ ·)) : lf = leftK ts n (j + 1) ∧ ns = partOf ts n x := by
  constructor
  · refine rising_ext (by rw [g.lf]; exact (leftK_rising _ _ _).filter _) (leftK_rising _ _ _) fun z => ?_
    rw [hn, g.lf, List.mem_filter, Bool.not_eq_true', Bool.eq_false_iff, Ne, List.contains_iff_mem]
    exact ⟨fun ⟨a, b⟩ => ⟨a, fun r => b (g.all r)⟩, fun ⟨a, b⟩ => ⟨a, fun r => b (g.pin z r).2⟩⟩
  · have nd : ns.Nodup := p1.nodup_iff.mpr g.nd
    have lt : ns.Pairwise (· < ·) := (p2.and nd).imp fun {a b} ⟨h1, h2⟩ => by
      have : a ≠ b := h2
      omega
    refine rising_ext lt (part_rising _ _ _) fun z => ?_
    rw [p1.mem_iff, mem_part]
    exact ⟨fun h => ⟨(mem_leftK.mp (g.pin z h).1).1, (g.pin z h).2⟩, fun h => g.all h.2⟩
/-! ### l.remove(k) where k is there -/
theorem takesNever {X : Cx} : Takes X (fun _ _ _ _ => False) := fun u s' x => by
  obtain ⟨a, B, sI, pins, σ, H, cls, d, e, I, nb, up, sky, na, os, ag, w⟩ := x
  exact w.elim
/-! ### the law's weights; the law's parts -/
def spLWeights : Sp := fun vs H Q _ => ∃ (d c t : Addr) (us : List V), vs = [.ref d, .ref t] ∧ Deck H d c ∧ H t = some (.tup us) ∧ us.length ≤ 120 ∧ ∀ (r : Addr) (ws : List Int) (H' : Hp), H' r = some (.tup (ws.map V.int)) → ws.length = us.length → (∀ x ∈ ws, (1 : Int) ≤ x) → Deck H' d c → Kp d c H H' → Q (.ref r) H'
def LstV (H : Hp) (v : V) (P : List Int) : Prop := ∃ a, v = .ref a ∧ H a = some (.lst (P.map V.int))
theorem LstV.same {H H' : Hp} (s : Same H H') {v : V} {P : List Int} (h : LstV H v P) : LstV H' v P := by
  obtain ⟨a, e, h⟩ := h
  exact ⟨a, e, s _ _ h⟩
def spLParts : Sp := fun vs H Q _ => ∃ (n : Nat) (t : Addr) (us : List V) (ts : List Tie), vs = [.int n, .ref t] ∧ H t = some (.tup us) ∧ Paired (TieV H) us ts ∧ WebOk n ts ∧ ∀ r fs H', Same H H' → H' r = some (.lst fs) → Paired (LstV H') fs (partsTo ts n n) → Q (.ref r) H'
section
variable {P : Program} {w : World} {K : PySem.W.Frag} {mg : Str → Option Value} {base : Heap}
end
theorem lst_lst {H : Hp} {L : Addr} {xs : List V} (hn : ∀ P : List Int, True) : True := True.intro
theorem lstVs_mut {H : Hp} {L : Addr} {o : HO} {fs : List V} {Ps : List (List Int)} (h : Paired (fun v P => ∃ a, v = .ref a ∧ a ≠ L ∧ H a = some (.lst (P.map V.int))) fs Ps) : Paired (fun v P => ∃ a, v = .ref a ∧ a ≠ L ∧ (upd H L o) a = some (.lst (P.map V.int))) fs Ps := Paired.mono (fun _ _ ⟨a, e, n, h⟩ => ⟨a, e, n, by rw [upd_ne n]; exact h⟩) h
/-- the lists that were found, apart from those that are under way -/
def FsV (H : Hp) (ds : List Addr) (v : V) (P : List Int) : Prop := ∃ a, v = .ref a ∧ a ∉ ds ∧ H a = some (.lst (P.map V.int))
theorem FsV.mut {H : Hp} {ds : List Addr} {L : Addr} {o : HO} (hL : L ∈ ds) {v : V} {P : List Int} (h : FsV H ds v P) : FsV (upd H L o) ds v P := by
  obtain ⟨a, e, n, h⟩ := h
  exact ⟨a, e, n, by rw [upd_ne (fun z => n (by rw [z]; exact hL))]; exact h⟩
theorem FsV.same {H H' : Hp} {ds : List Addr} (s : Same H H') {v : V} {P : List Int} (h : FsV H ds v P) : FsV H' ds v P := by
  obtain ⟨a, e, n, h⟩ := h
  exact ⟨a, e, n, s _ _ h⟩
theorem FsV.more {H : Hp} {ds : List Addr} {L : Addr} (n0 : H L = none) {v : V} {P : List Int} (h : FsV H ds v P) : FsV H (L :: ds) v P := by
  obtain ⟨a, e, n, h⟩ := h
  refine ⟨a, e, fun z => ?_, h⟩
  rcases List.mem_cons.mp z with z | z
  · rw [z, n0] at h
    cases h
  · exact n z
theorem FsV.less {H : Hp} {ds es : List Addr} (s : ∀ a ∈ es, a ∈ ds) {v : V} {P : List Int} (h : FsV H ds v P) : FsV H es v P := by
  obtain ⟨a, e, n, h⟩ := h
  exact ⟨a, e, fun z => n (s a z), h⟩
section
variable {P : Program} {w : World} {K : PySem.W.Frag} {mg : Str → Option Value} {base : Heap}
set_option maxHeartbeats 8000000 in
theorem ok_l_parts {f : Addr} {fd : FuncData} (F : Fun K "_law_parts" "_law_parts" s_l_parts f fd) (M : Free mg) (m_sorted : mg "sorted" = none) : FnOk P w K mg base CX0 1 f fd ["_law_many", "_law_ties_here"] spLParts := by
  refine F.ok sc_l_parts (fun vs H Q E h => ?_) (fun cdv A outer s H vs Q E hr h => ?_)
  · obtain ⟨n, t, us, ts, rfl, _⟩ := h
    rfl
  · obtain ⟨n, t, us, ts, rfl, ht, hp, ok, q⟩ := h
    refine ⟨_, (pss_cons (ps_set (i := 2) sc_l_parts.nd rfl (.inl rfl) (pe_listRg rfl (by rfl) M.list (prg_1 (by rfl) M.range (pv 0))))
      (pss_cons (ps_set (i := 3) sc_l_parts.nd rfl (.inl rfl) (pe_lst pa_nil))
      (pss_cons (ps_while PassesOwn.never (pt_cmpR (op_neE hr.units0) (pv 2) (pe_lst pa_nil) (nomark _))
        (pss_cons (ps_set (i := 4) sc_l_parts.nd rfl (.inl rfl) (pe_lst pa_nil))
        (pss_cons (ps_set (i := 5) sc_l_parts.nd rfl (.inl rfl) (pe_lst (pa_cons (pe_ix ix_list (pv 2) pe_int (fun _ _ => rfl)) pa_nil)))
        (pss_cons (ps_while PassesOwn.never (pt_cmpR (op_neE hr.units0) (pv 5) (pe_lst pa_nil) (nomark _))
          (pss_cons (ps_set (i := 6) sc_l_parts.nd rfl (.inl rfl) (pe_bm0 PySem.F.plainAttrs_list PySem.F.slot_list_pop PySem.F.type_list_pop mt_pop (pv 5)))
          (pss_one (ps_if (pt_cmpR op_in_seq (pv 6) (pv 2) rfl)
            (pss_cons (ps_expr (pe_remX rfl takesNever (pv 2) (pv 6)))
            (pss_cons (ps_expr (pe_bm PySem.F.plainAttrs_list PySem.F.slot_list_append PySem.F.type_list_append mt_append (pv 4) (pa_cons (pv 6) pa_nil)))
            (pss_one (ps_for PassesOwn.never rfl (pi_tup (pv 1)) (pg_tup rfl (pgs_cons (pg_name (i := 7) sc_l_parts.nd rfl (.inl rfl)) (pgs_cons (pg_name (i := 8) sc_l_parts.nd rfl (.inl rfl)) (pgs_cons (pg_name (i := 9) sc_l_parts.nd rfl (.inl rfl)) pgs_nil))))
              (pss_one (ps_if (PW.pt (pw_or (pt_cmpR op_eq (pv 6) (pv 7) (nomark _)) (pw_or1 (pt_cmpR op_eq (pv 6) (pv 8) (nomark _)))))
                (pss_one (ps_expr (pe_bm PySem.F.plainAttrs_list PySem.F.slot_list_extend PySem.F.type_list_extend mt_extend (pv 5) (pa_cons (pe_lst (pa_cons (pv 7) (pa_cons (pv 8) pa_nil))) pa_nil))))
                pss_nil))))))
            pss_nil))))
        (pss_one (ps_expr (pe_bm PySem.F.plainAttrs_list PySem.F.slot_list_append PySem.F.type_list_append mt_append (pv 3) (pa_cons (pe_callB cr_sortedI (by rfl) m_sorted (by decide +kernel) (pa_cons (pv 4) pa_nil)) pa_nil))))))))
      (pss_one (ps_ret (pv 3)))))), ?_⟩
    have few := ok.few
    have nhi := ok.hi
    have nlo := ok.lo
    have hlen : us.length = ts.length := Paired.length hp
    refine ⟨.int n, rfl, n, rfl, RgOk.of_le (by omega) (by omega) (by omega) (by omega), fun L nL => ?_⟩
    rw [rgV_ints]
    have s1 := same_new (o := .lst ((rng n).map V.int)) nL
    have hL := upd_same (H := H) (a := L) (o := .lst ((rng n).map V.int))
    generalize upd H L (.lst ((rng n).map V.int)) = H1 at s1 hL
    refine ⟨Nat.zero_le _, fun B nB => ?_⟩
    have nB0 := s1.free nB
    have BL : B ≠ L := fun z => by rw [z, hL] at nB; cases nB
    have s2 := s1.trans (same_new (o := .lst []) nB)
    have hL2 := same_new (o := .lst []) nB _ _ hL
    have hB2 := upd_same (H := H1) (a := B) (o := .lst [])
    generalize upd H1 B (.lst []) = H2 at s2 hL2 hB2
    have e0 : leftK ts n 0 = rng n := by
      unfold leftK
      refine List.filter_eq_self.mpr fun p _ => @decide_eq_true _ (_) fun P hP => ?_
      cases hP
    refine ⟨fun m σ' H' => ∃ (y4 y5 y6 y7 y8 y9 : Option V) (k : Nat) (fs : List V), σ' = [some (.int n), some (.ref t), some (.ref L), some (.ref B), y4, y5, y6, y7, y8, y9] ∧ k ≤ n ∧ H' L = some (.lst ((leftK ts n k).map V.int)) ∧ H' B = some (.lst fs) ∧ Paired (FsV H' [L, B]) fs (partsTo ts n k) ∧ Same H H' ∧ m = (leftK ts n k).length, ⟨_, none, none, none, none, none, none, 0, [], rfl, Nat.zero_le _, by rw [e0]; exact hL2, hB2, .nil, s2, rfl⟩, ?_⟩
    clear hL2 hB2 s1 s2 hL
    rintro m σ' H3 ⟨y4, y5, y6, y7, y8, y9, k, fs, rfl, kn, hL, hB, hfs, s3, hm⟩
    refine ⟨.ref L, rfl, Nat.zero_le _, fun p0 n0 => ⟨L, p0, _, rfl, rfl, SqL.of (same_new n0 _ _ hL), SqL.of upd_same, _, rfl, ?_⟩⟩
    have sn := same_new (o := .lst []) n0
    have hL4 := sn _ _ hL
    have hB4 := sn _ _ hB
    have hfs4 : Paired (FsV _ [L, B]) fs (partsTo ts n k) := Paired.mono (fun _ _ x => x.same sn) hfs
    have s4 := s3.trans sn
    clear hL hB hfs s3 sn n0
    generalize upd H3 p0 (.lst []) = H4 at hL4 hB4 hfs4 s4
    cases hk : leftK ts n k with
    | nil =>
      refine ⟨.ref B, rfl, q B fs H4 s4 hB4 ?_⟩
      rw [← left_done hk kn]
      exact Paired.mono (fun _ _ ⟨a, e, _, h⟩ => ⟨a, e, h⟩) hfs4
    | cons x rest =>
      obtain ⟨j, ej, jn, lead, ept, hnext⟩ := left_next ok.ok hk
      rw [hk] at hL4 hm
      have hb : (!(List.map V.int (x :: rest)).isEmpty) = true := rfl
      rw [hb]
      refine ⟨fun σ' H' => ∃ m', m' < m ∧ ∃ (y4 y5 y6 y7 y8 y9 : Option V) (k : Nat) (fs : List V), σ' = [some (.int n), some (.ref t), some (.ref L), some (.ref B), y4, y5, y6, y7, y8, y9] ∧ k ≤ n ∧ H' L = some (.lst ((leftK ts n k).map V.int)) ∧ H' B = some (.lst fs) ∧ Paired (FsV H' [L, B]) fs (partsTo ts n k) ∧ Same H H' ∧ m' = (leftK ts n k).length, fun _ _ h => h, ?_⟩
      refine ⟨Nat.zero_le _, fun C nC => ?_⟩
      have nC0 := s4.free nC
      have CL : C ≠ L := fun z => by rw [z, hL4] at nC; cases nC
      have CB : C ≠ B := fun z => by rw [z, hB4] at nC; cases nC
      have sc := same_new (o := .lst []) nC
      have hfs5 : Paired (FsV _ [C, L, B]) fs (partsTo ts n k) := Paired.mono (fun _ _ x => (x.more nC).same sc) hfs4
      have hL5 := sc _ _ hL4
      have hB5 := sc _ _ hB4
      have s5 := s4.trans sc
      have hC5 := upd_same (H := H4) (a := C) (o := .lst [])
      clear hL4 hB4 hfs4 s4 sc
      generalize upd H4 C (.lst []) = H5 at hL5 hB5 hfs5 s5 hC5
      refine ⟨.ref L, rfl, L, _, 0, .int x, rfl, rfl, SqL.of hL5, by rw [List.map_cons]; exact atI_nat (j := 0) rfl, by show 1 ≤ sizeLine; decide, fun W nW => ?_⟩
      have nW0 := s5.free nW
      have WL : W ≠ L := fun z => by rw [z, hL5] at nW; cases nW
      have WB : W ≠ B := fun z => by rw [z, hB5] at nW; cases nW
      have WC : W ≠ C := fun z => by rw [z, hC5] at nW; cases nW
      have sw := same_new (o := .lst [.int x]) nW
      have hfs6 : Paired (FsV _ [W, C, L, B]) fs (partsTo ts n k) := Paired.mono (fun _ _ x => (x.more nW).same sw) hfs5
      have hL6 := sw _ _ hL5
      have hB6 := sw _ _ hB5
      have hC6 := sw _ _ hC5
      have s6 := s5.trans sw
      have hW6 := upd_same (H := H5) (a := W) (o := .lst [.int x])
      clear hL5 hB5 hC5 hfs5 s5 sw nC nW
      generalize upd H5 W (.lst [.int x]) = H6 at hL6 hB6 hC6 hfs6 s6 hW6
      have xin : x ∈ leftK ts n k := by rw [hk]; exact List.mem_cons_self
      have lk40 : (leftK ts n k).length ≤ 40 := by
        have := pigeon n (leftK ts n k) ((leftK_rising ts n k).imp fun {a b} h => by omega) (fun p hp => (mem_leftK.mp hp).1)
        omega
      have h0 : ∀ q, (0 ≤ q ∧ q < (n : Int)) → Rch ts x q → q ∈ leftK ts n k := fun q hq r => left_closed xin hq r
      have gro0 : Gro ts n x (leftK ts n k) (leftK ts n k) [] [x] := ⟨.nil, (List.filter_eq_self.mpr fun p _ => rfl).symm, (fun p hp => by cases hp), fun p hp => by rw [List.mem_singleton.mp hp]; exact ⟨(mem_leftK.mp xin).1, .refl⟩, (fun p hp => by cases hp), .inr (List.mem_singleton.mpr rfl)⟩
      rw [← hk] at hL6
      refine ⟨fun m1 σ' H' => ∃ (y6 y7 y8 y9 : Option V) (lf pt wt : List Int), σ' = [some (.int n), some (.ref t), some (.ref L), some (.ref B), some (.ref C), some (.ref W), y6, y7, y8, y9] ∧ H' L = some (.lst (lf.map V.int)) ∧ H' C = some (.lst (pt.map V.int)) ∧ H' W = some (.lst (wt.map V.int)) ∧ H' B = some (.lst fs) ∧ Paired (FsV H' [W, C, L, B]) fs (partsTo ts n k) ∧ Same H H' ∧ Gro ts n x (leftK ts n k) lf pt wt ∧ wt.length + lf.length * 240 ≤ 9601 ∧ m1 = lf.length * 241 + wt.length, ⟨_, y6, y7, y8, y9, leftK ts n k, [], [x], rfl, hL6, hC6, hW6, hB6, hfs6, s6, gro0, by have : ([x] : List Int).length = 1 := rfl; omega, rfl⟩, ?_⟩
      clear hL6 hB6 hC6 hfs6 s6 hW6 gro0
      rintro m1 σ' H7 ⟨y6, y7, y8, y9, lf, pt, wt, rfl, hL7, hC7, hW7, hB7, hfs7, s7, g7, b7, em1⟩
      refine ⟨.ref W, rfl, Nat.zero_le _, fun p1 n1 => ⟨W, p1, _, rfl, rfl, SqL.of (same_new n1 _ _ hW7), SqL.of upd_same, _, rfl, ?_⟩⟩
      have sn := same_new (o := .lst []) n1
      have hL8 := sn _ _ hL7
      have hB8 := sn _ _ hB7
      have hC8 := sn _ _ hC7
      have hW8 := sn _ _ hW7
      have hfs8 : Paired (FsV _ [W, C, L, B]) fs (partsTo ts n k) := Paired.mono (fun _ _ x => x.same sn) hfs7
      have s8 := s7.trans sn
      clear hL7 hB7 hC7 hW7 hfs7 s7 sn n1
      generalize upd H7 p1 (.lst []) = H8 at hL8 hB8 hC8 hW8 hfs8 s8
      cases hwl : wt with
      | nil =>
        subst hwl
        refine ⟨.ref B, rfl, .inl ⟨rfl, _, SqL.of hB8⟩, .ref C, rfl, C, pt, rfl, SqL.of hC8, fun ns D pn sn nD => ?_⟩
        obtain ⟨e1, e2⟩ := g7.end' hnext pn sn
        have less : lf.length < (leftK ts n k).length := by
          rw [g7.lf]
          refine List.length_filter_lt_length_iff_exists.mpr ⟨x, xin, ?_⟩
          rw [List.contains_iff_mem.mpr (g7.all .refl)]
          exact Bool.false_ne_true
        subst e1 e2
        have sd := same_new (o := .lst ((partOf ts n x).map V.int)) nD
        have lfs : fs.length ≤ 40 := by
          have h1 := Paired.length hfs8
          have h2 := partsTo_len ts n k
          omega
        have DL : D ≠ L := fun z => by rw [z, hL8] at nD; cases nD
        have DB : D ≠ B := fun z => by rw [z, hB8] at nD; cases nD
        refine ⟨B, fs, .ref D, rfl, rfl, sd _ _ hB8, small1000 (by omega), ?_⟩
        refine ⟨_, ?_, _, _, _, _, _, _, j + 1, fs ++ [.ref D], rfl, by omega, ?_, upd_same, ?_, Same.mut (s8.trans sd) nB0, rfl⟩
        · rw [hk] at less
          omega
        · rw [upd_ne (Ne.symm BL)]
          exact sd _ _ hL8
        · rw [ept]
          refine Paired.snoc (Paired.mono (fun _ _ x => ((x.less (es := [L, B]) (by simp)).same sd).mut (by simp)) hfs8) ⟨D, rfl, by simp [DL, DB], ?_⟩
          rw [upd_ne DB]
          exact upd_same
      | cons z zs =>
        obtain ⟨ys, y, e⟩ : ∃ (ys : List Int) (p : Int), z :: zs = ys ++ [p] := ⟨(z :: zs).dropLast, (z :: zs).getLast (by simp), (List.dropLast_concat_getLast (by simp)).symm⟩
        have hb : (!(List.map V.int (z :: zs)).isEmpty) = true := rfl
        rw [hb]
        rw [hwl, e] at hW8 g7 b7 em1
        have e3 : ((ys ++ [y]).map V.int).dropLast = ys.map V.int := by simp
        rw [List.length_append] at b7 em1
        have l1 : ([y] : List Int).length = 1 := rfl
        refine ⟨fun σ' H' => ∃ m', m' < m1 ∧ ∃ (y6 y7 y8 y9 : Option V) (lf pt wt : List Int), σ' = [some (.int n), some (.ref t), some (.ref L), some (.ref B), some (.ref C), some (.ref W), y6, y7, y8, y9] ∧ H' L = some (.lst (lf.map V.int)) ∧ H' C = some (.lst (pt.map V.int)) ∧ H' W = some (.lst (wt.map V.int)) ∧ H' B = some (.lst fs) ∧ Paired (FsV H' [W, C, L, B]) fs (partsTo ts n k) ∧ Same H H' ∧ Gro ts n x (leftK ts n k) lf pt wt ∧ wt.length + lf.length * 240 ≤ 9601 ∧ m' = lf.length * 241 + wt.length, fun _ _ h => h, ?_⟩
        refine ⟨.ref W, rfl, .inl ⟨rfl, _, SqL.of hW8⟩, W, _, .int y, rfl, rfl, hW8, by simp, ?_⟩
        rw [e3]
        have hL9 : (upd H8 W (.lst (ys.map V.int))) L = some (.lst (lf.map V.int)) := by rw [upd_ne (Ne.symm WL)]; exact hL8
        have hB9 : (upd H8 W (.lst (ys.map V.int))) B = some (.lst fs) := by rw [upd_ne (Ne.symm WB)]; exact hB8
        have hC9 : (upd H8 W (.lst (ys.map V.int))) C = some (.lst (pt.map V.int)) := by rw [upd_ne (Ne.symm WC)]; exact hC8
        have hW9 : (upd H8 W (.lst (ys.map V.int))) W = some (.lst (ys.map V.int)) := upd_same
        have hfs9 : Paired (FsV (upd H8 W (.lst (ys.map V.int))) [W, C, L, B]) fs (partsTo ts n k) := Paired.mono (fun _ _ x => x.mut (by simp)) hfs8
        have s9 : Same H (upd H8 W (.lst (ys.map V.int))) := Same.mut s8 nW0
        clear hL8 hB8 hC8 hW8 hfs8 s8
        generalize upd H8 W (.lst (ys.map V.int)) = H9 at hL9 hB9 hC9 hW9 hfs9 s9
        refine ⟨.int y, rfl, .ref L, rfl, L, _, rfl, .inl (SqL.of hL9), rfl, flat_ints _, _, rfl, ?_⟩
        rw [in_ints]
        cases hin : lf.contains y with
        | false =>
          have hy : y ∉ lf := fun z => by rw [List.contains_iff_mem.mpr z] at hin; cases hin
          exact ⟨_, by omega, _, _, _, _, lf, pt, ys, rfl, hL9, hC9, hW9, hB9, hfs9, s9, g7.drop h0 hy, by omega, rfl⟩
        | true =>
          have hy := List.contains_iff_mem.mp hin
          refine ⟨.ref L, rfl, .inl ⟨rfl, _, SqL.of hL9⟩, .int y, rfl, L, lf, y, rfl, rfl, hL9, fun _ => ?_, fun h => (h hy).elim⟩
          have ll : lf.length = (lf.erase y).length + 1 := by
            have := List.length_erase_of_mem hy
            have : 0 < lf.length := List.length_pos_of_mem hy
            omega
          have lpt : pt.length ≤ 40 := by
            have := pigeon n pt g7.nd (fun p hp => (mem_leftK.mp (g7.pin p hp).1).1)
            omega
          have g10 := g7.take ok.ok (leftK_rising ts n k) hy
          have hLa : (upd H9 L (.lst ((lf.erase y).map V.int))) L = some (.lst ((lf.erase y).map V.int)) := upd_same
          have hBa : (upd H9 L (.lst ((lf.erase y).map V.int))) B = some (.lst fs) := by rw [upd_ne BL]; exact hB9
          have hCa : (upd H9 L (.lst ((lf.erase y).map V.int))) C = some (.lst (pt.map V.int)) := by rw [upd_ne CL]; exact hC9
          have hWa : (upd H9 L (.lst ((lf.erase y).map V.int))) W = some (.lst (ys.map V.int)) := by rw [upd_ne WL]; exact hW9
          have hfsa : Paired (FsV (upd H9 L (.lst ((lf.erase y).map V.int))) [W, C, L, B]) fs (partsTo ts n k) := Paired.mono (fun _ _ x => x.mut (by simp)) hfs9
          have sa : Same H (upd H9 L (.lst ((lf.erase y).map V.int))) := Same.mut s9 nL
          clear hL9 hB9 hC9 hW9 hfs9 s9
          generalize upd H9 L (.lst ((lf.erase y).map V.int)) = Ha at hLa hBa hCa hWa hfsa sa
          refine ⟨.ref C, rfl, .inl ⟨rfl, _, SqL.of hCa⟩, .int y, rfl, C, _, _, rfl, rfl, hCa, by rw [List.length_map]; exact small1000 (by omega), ?_⟩
          have ema : pt.map V.int ++ [V.int y] = (pt ++ [y]).map V.int := by rw [List.map_append]; rfl
          rw [ema]
          have hLb : (upd Ha C (.lst ((pt ++ [y]).map V.int))) L = some (.lst ((lf.erase y).map V.int)) := by rw [upd_ne (Ne.symm CL)]; exact hLa
          have hBb : (upd Ha C (.lst ((pt ++ [y]).map V.int))) B = some (.lst fs) := by rw [upd_ne (Ne.symm CB)]; exact hBa
          have hCb : (upd Ha C (.lst ((pt ++ [y]).map V.int))) C = some (.lst ((pt ++ [y]).map V.int)) := upd_same
          have hWb : (upd Ha C (.lst ((pt ++ [y]).map V.int))) W = some (.lst (ys.map V.int)) := by rw [upd_ne WC]; exact hWa
          have hfsb : Paired (FsV (upd Ha C (.lst ((pt ++ [y]).map V.int))) [W, C, L, B]) fs (partsTo ts n k) := Paired.mono (fun _ _ x => x.mut (by simp)) hfsa
          have sb : Same H (upd Ha C (.lst ((pt ++ [y]).map V.int))) := Same.mut sa nC0
          clear hLa hBa hCa hWa hfsa sa
          generalize upd Ha C (.lst ((pt ++ [y]).map V.int)) = Hb at hLb hBb hCb hWb hfsb sb
          refine ⟨.ref t, rfl, t, rfl, ⟨_, SqT.of (sb _ _ ht)⟩, ?_⟩
          refine for_tup (xs := us) (fun i σ' H' => ∃ (y7 y8 y9 : Option V), σ' = [some (.int n), some (.ref t), some (.ref L), some (.ref B), some (.ref C), some (.ref W), some (.int y), y7, y8, y9] ∧ H' L = some (.lst ((lf.erase y).map V.int)) ∧ H' C = some (.lst ((pt ++ [y]).map V.int)) ∧ H' W = some (.lst ((ys ++ extTo ts y i).map V.int)) ∧ H' B = some (.lst fs) ∧ Paired (FsV H' [W, C, L, B]) fs (partsTo ts n k) ∧ Same H H') ⟨y7, y8, y9, rfl, hLb, hCb, by rw [show extTo ts y 0 = [] from rfl, List.append_nil]; exact hWb, hBb, hfsb, sb⟩ (fun i σ' H' _ h => by
            obtain ⟨_, _, _, _, _, _, _, _, _, h⟩ := h
            exact SqT.of (h _ _ ht)) ?_ ?_
          · clear hLb hBb hCb hWb hfsb sb
            rintro i u σ' Hc eu ⟨y7, y8, y9, rfl, hLc, hCc, hWc, hBc, hfsc, sc⟩
            obtain ⟨tt, et, c, rfl, hc⟩ := Paired.at hp eu
            have il := (List.getElem?_eq_some_iff.mp et).1
            refine ⟨c, _, rfl, SqT.of (sc _ _ hc), rfl, _, _, rfl, _, _, rfl, _, _, rfl, rfl, ?_⟩
            have lx := extTo_len ts y i
            have grow : (y = tt.one ∨ y = tt.other) → ∀ D (Hd : Hp), Hc D = none → Hd = upd Hc D (.lst [.int tt.one, .int tt.other]) → (∃ (y7 y8 y9 : Option V), [some (V.int n), some (.ref t), some (.ref L), some (.ref B), some (.ref C), some (.ref W), some (.int y), some (.int tt.one), some (.int tt.other), some (.str (kindS tt.foe))] = [some (.int n), some (.ref t), some (.ref L), some (.ref B), some (.ref C), some (.ref W), some (.int y), y7, y8, y9] ∧ (upd Hd W (.lst ((ys ++ extTo ts y i).map V.int ++ [.int tt.one, .int tt.other]))) L = some (.lst ((lf.erase y).map V.int)) ∧ (upd Hd W (.lst ((ys ++ extTo ts y i).map V.int ++ [.int tt.one, .int tt.other]))) C = some (.lst ((pt ++ [y]).map V.int)) ∧ (upd Hd W (.lst ((ys ++ extTo ts y i).map V.int ++ [.int tt.one, .int tt.other]))) W = some (.lst ((ys ++ extTo ts y (i + 1)).map V.int)) ∧ (upd Hd W (.lst ((ys ++ extTo ts y i).map V.int ++ [.int tt.one, .int tt.other]))) B = some (.lst fs) ∧ Paired (FsV (upd Hd W (.lst ((ys ++ extTo ts y i).map V.int ++ [.int tt.one, .int tt.other]))) [W, C, L, B]) fs (partsTo ts n k) ∧ Same H (upd Hd W (.lst ((ys ++ extTo ts y i).map V.int ++ [.int tt.one, .int tt.other])))) := fun ht D Hd nD e => by
              subst e
              have sd := same_new (o := .lst [.int tt.one, .int tt.other]) nD
              refine ⟨_, _, _, rfl, by rw [upd_ne (Ne.symm WL)]; exact sd _ _ hLc, by rw [upd_ne (Ne.symm WC)]; exact sd _ _ hCc, ?_, by rw [upd_ne (Ne.symm WB)]; exact sd _ _ hBc, Paired.mono (fun _ _ x => (x.same sd).mut (by simp)) hfsc, Same.mut (sc.trans sd) nW0⟩
              rw [upd_same, extTo_succ et, if_pos ht, ← List.append_assoc, List.map_append (l₁ := ys ++ extTo ts y i)]
              rfl
            have bnd : ((ys ++ extTo ts y i).map V.int).length + [V.int tt.one, V.int tt.other].length ≤ sizeLine := by
              rw [List.length_map, List.length_append]
              show ys.length + (extTo ts y i).length + 2 ≤ sizeLine
              have e : sizeLine = 16777216 := by decide
              omega
            refine ⟨.int y, rfl, .int tt.one, rfl, rfl, _, rfl, ?_⟩
            rw [dec_intF]
            have WD : ∀ D, Hc D = none → (upd Hc D (.lst [V.int tt.one, V.int tt.other])) W = some (.lst ((ys ++ extTo ts y i).map V.int)) := fun D nD => same_new nD _ _ hWc
            by_cases h1 : y = tt.one
            · rw [decide_eq_true h1]
              refine ⟨.ref W, rfl, .inl ⟨rfl, _, SqL.of hWc⟩, .int tt.one, rfl, .int tt.other, rfl, by show 2 ≤ sizeLine; decide, fun D nD => ⟨W, D, _, _, rfl, rfl, WD D nD, upd_same, bnd, ?_⟩⟩
              exact grow (.inl h1) D _ nD rfl
            · rw [decide_eq_false h1]
              refine ⟨.int y, rfl, .int tt.other, rfl, rfl, _, rfl, ?_⟩
              rw [dec_intF]
              by_cases h2 : y = tt.other
              · rw [decide_eq_true h2]
                refine ⟨.ref W, rfl, .inl ⟨rfl, _, SqL.of hWc⟩, .int tt.one, rfl, .int tt.other, rfl, by show 2 ≤ sizeLine; decide, fun D nD => ⟨W, D, _, _, rfl, rfl, WD D nD, upd_same, bnd, ?_⟩⟩
                exact grow (.inr h2) D _ nD rfl
              · rw [decide_eq_false h2]
                refine ⟨_, _, _, rfl, hLc, hCc, ?_, hBc, hfsc, sc⟩
                rw [extTo_succ et, if_neg (fun z => z.elim h1 h2), List.append_nil]
                exact hWc
          · rintro σ' Hc ⟨y7, y8, y9, rfl, hLc, hCc, hWc, hBc, hfsc, sc⟩
            rw [hlen] at hWc
            have lx := extTo_len ts y ts.length
            exact ⟨_, by rw [List.length_append]; omega, _, _, _, _, lf.erase y, pt ++ [y], ys ++ extTo ts y ts.length, rfl, hLc, hCc, hWc, hBc, hfsc, sc, g10, by rw [List.length_append]; omega, rfl⟩
end
/-! ### the law's least weight of a part -/
def bitKs : List Int → Nat → List Nb
  | [], _ => []
  | p :: P, j => (p, decide (j % 2 = 1)) :: bitKs P (j / 2)
theorem bitKs_keys : ∀ (P : List Int) (j : Nat), (bitKs P j).map (·.1) = P
  | [], _ => rfl
  | p :: P, j => by rw [bitKs, List.map_cons, bitKs_keys P]
theorem bitKs_snoc : ∀ (P : List Int) (p : Int) (j : Nat), bitKs (P ++ [p]) j = bitKs P j ++ [(p, decide (j / 2 ^ P.length % 2 = 1))]
  | [], p, j => by simp [bitKs]
  | q :: P, p, j => by
    rw [List.cons_append, bitKs, bitKs_snoc P p (j / 2), bitKs, List.length_cons, List.cons_append, Nat.div_div_eq_div_mul, Nat.pow_succ, Nat.mul_comm 2]
def numK (d : Int → Bool) : List Int → Nat
  | [] => 0
  | p :: P => (if d p = true then 1 else 0) + 2 * numK d P
theorem bitKs_num (d : Int → Bool) : ∀ P : List Int, bitKs P (numK d P) = P.map fun p => (p, d p)
  | [] => rfl
  | p :: P => by
    rw [numK, bitKs, List.map_cons]
    cases h : d p with
    | true =>
      rw [if_pos rfl, show (1 + 2 * numK d P) / 2 = numK d P from by omega, bitKs_num d P, decide_eq_true (by omega)]
    | false =>
      rw [if_neg Bool.false_ne_true, show (0 + 2 * numK d P) / 2 = numK d P from by omega, bitKs_num d P, decide_eq_false (by omega)]
theorem numK_lt (d : Int → Bool) {l : Int} (h : d l = false) : ∀ P : List Int, numK d (P ++ [l]) < 2 ^ P.length
  | [] => by
    rw [List.nil_append, numK, h, if_neg Bool.false_ne_true]
    show 0 + 2 * 0 < 1
    decide
  | p :: P => by
    have ih := numK_lt d h P
    rw [List.cons_append, numK, List.length_cons, Nat.pow_succ]
    split <;> omega
/-- what stands after the colourings below i -/
structure LsT (ts : List Tie) (g : Int → Int) (es P : List Int) (i : Nat) (v : Int) : Prop where
  le : ∀ j, j < i → v ≤ sumW g (badF ts (cOf (bitKs P j)) es)
  ex : v = sumW g es ∨ ∃ j, j < i ∧ v = sumW g (badF ts (cOf (bitKs P j)) es)
  top : v ≤ sumW g es
theorem sumW_filter {g : Int → Int} {f : Int → Bool} : ∀ {es : List Int}, (∀ e ∈ es, 1 ≤ g e) → sumW g (es.filter f) ≤ sumW g es
  | [], _ => Int.le_refl _
  | e :: es, h => by
    have ih := sumW_filter (g := g) (f := f) (es := es) fun x hx => h x (List.mem_cons_of_mem _ hx)
    have h1 := h e List.mem_cons_self
    unfold sumW at ih ⊢
    rw [List.filter_cons, List.map_cons, List.sum_cons]
    cases f e with
    | true => rw [if_pos rfl, List.map_cons, List.sum_cons]; omega
    | false => rw [if_neg Bool.false_ne_true]; omega
theorem LsT.next {ts : List Tie} {g : Int → Int} {es P : List Int} {i : Nat} {v : Int} (h : LsT ts g es P i v) (gp : ∀ e ∈ es, 1 ≤ g e) : LsT ts g es P (i + 1) (if sumW g (badF ts (cOf (bitKs P i)) es) < v then sumW g (badF ts (cOf (bitKs P i)) es) else v) := by
  by_cases c : sumW g (badF ts (cOf (bitKs P i)) es) < v
  · rw [if_pos c]
    refine ⟨fun j hj => ?_, .inr ⟨i, by omega, rfl⟩, sumW_filter gp⟩
    by_cases e : j = i
    · rw [e]; exact Int.le_refl _
    · have := h.le j (by omega)
      omega
  · rw [if_neg c]
    refine ⟨fun j hj => ?_, h.ex.imp id (fun ⟨j, a, b⟩ => ⟨j, by omega, b⟩), h.top⟩
    by_cases e : j = i
    · rw [e]; omega
    · exact h.le j (by omega)
theorem LsT.done {ts : List Tie} {g : Int → Int} {es Q : List Int} {l v : Int} (h : LsT ts g es (Q ++ [l]) (2 ^ Q.length) v) (gp : ∀ e ∈ es, 1 ≤ g e) (nd : (Q ++ [l]).Nodup) (cl : ∀ e ∈ es, (tieAt ts e).one ∈ Q ++ [l] ∧ (tieAt ts e).other ∈ Q ++ [l]) : LeastV ts g es v := by
  have p0 : 0 < 2 ^ Q.length := Nat.two_pow_pos _
  refine ⟨?_, fun c => ?_⟩
  · rcases h.ex with e | ⟨j, _, e⟩
    · refine ⟨cOf (bitKs (Q ++ [l]) 0), ?_⟩
      have h1 := h.le 0 p0
      have h2 := sumW_filter (g := g) (f := fun e => brkF (cOf (bitKs (Q ++ [l]) 0)) (tieAt ts e)) gp
      have h3 : sumW g (badF ts (cOf (bitKs (Q ++ [l]) 0)) es) ≤ sumW g es := h2
      omega
    · exact ⟨_, e⟩
  · obtain ⟨d, e1, e2⟩ : ∃ d : Int → Bool, d l = false ∧ badF ts d es = badF ts c es := by
      cases hd : c l with
      | false => exact ⟨c, hd, rfl⟩
      | true => exact ⟨fun p => !c p, by show (!c l) = false; rw [hd]; rfl, badF_flip ts c es⟩
    have h1 := h.le _ (numK_lt d e1 Q)
    rw [bitKs_num, badF_congr (d := d) cl (fun p hp => cOf_map nd d hp), e2] at h1
    exact h1
/-- a row of the law: a tie and its weight -/
def RowL (H : Hp) (ts : List Tie) (g : Int → Int) (v : V) (e : Int) : Prop := ∃ a, v = .ref a ∧ H a = some (.tup [.int (tieAt ts e).one, .int (tieAt ts e).other, .str (kindS (tieAt ts e).foe), .int (g e)])
theorem RowL.tk {H H' : Hp} (k : Tk H H') {ts : List Tie} {g : Int → Int} {v : V} {e : Int} (h : RowL H ts g v e) : RowL H' ts g v e := by
  obtain ⟨a, ev, h⟩ := h
  exact ⟨a, ev, k _ _ h⟩
def spLLeastPart : Sp := fun vs H Q _ => ∃ (p r : Addr) (rows : List V) (ts : List Tie) (g : Int → Int) (P es : List Int), vs = [.ref p, .ref r] ∧ H p = some (.lst (P.map V.int)) ∧ H r = some (.lst rows) ∧ Paired (RowL H ts g) rows es ∧ es.length ≤ 120 ∧ (∀ e ∈ es, 1 ≤ g e) ∧ P.Nodup ∧ P ≠ [] ∧ P.length ≤ 8 ∧ (∀ e ∈ es, (tieAt ts e).one ∈ P ∧ (tieAt ts e).other ∈ P) ∧ ∀ v H', Same H H' → LeastV ts g es v → Q (.int v) H'
theorem sumW_take {g : Int → Int} {es : List Int} {j : Nat} {e : Int} (h : es[j]? = some e) : (es.take (j + 1)).map g = (es.take j).map g ++ [g e] := by
  rw [List.take_add_one, h, List.map_append]
  rfl
section
variable {P : Program} {w : World} {K : PySem.W.Frag} {mg : Str → Option Value} {base : Heap}
set_option maxHeartbeats 8000000 in
theorem ok_l_least_part {f : Addr} {fd : FuncData} (F : Fun K "_law_least_part" "_law_least_part" s_l_least_part f fd) (M : Free mg) (m_enumerate : mg "enumerate" = none) (m_min : mg "min" = none) : FnOk P w K mg base CX0 1 f fd ["_law_part", "_law_rows"] spLLeastPart := by
  refine F.ok sc_l_least_part (fun vs H Q E h => ?_) (fun cdv A outer s H vs Q E hr h => ?_)
  · obtain ⟨p, r, rows, ts, g, P, es, rfl, _⟩ := h
    rfl
  · obtain ⟨p, r, rows, ts, g, P, es, rfl, hp, hrr, hrows, l120, gp, nd, pne, l8, cl, q⟩ := h
    have hu := room1 hr
    refine ⟨_, (pss_cons (ps_set (i := 2) sc_l_least_part.nd rfl (.inl rfl) (pe_callB (cr_sum rfl) (by rfl) M.sum (by decide +kernel) (pa_cons (pe_lc (own := [("_law_row", 3)]) (g := (gName 3)) (tt := tYes) rfl sc_l_least_part.nd (pi_list (pv 1)) (blkOk_by (N := N_l_least_part) (sc := defScope s_l_least_part) (own := [("_law_row", 3)]) (by decide +kernel)) (fun _ _ _ _ _ => (pg_name (i := 3) sc_l_least_part.nd rfl (.inl rfl))) (fun _ _ _ _ _ => pts_nil) (fun _ _ _ _ _ => (pe_ix (r := rIxT K) ix_tup (pv 3) pe_int (fun _ _ => rfl)))) pa_nil)))
      (pss_cons (ps_for PassesOwn.never rfl (pi_range1 (by rfl) M.range (pa_cons (pe_ix ix_list (pe_lst (pa_cons pe_int (pa_cons pe_int (pa_cons pe_int (pa_cons pe_int (pa_cons pe_int (pa_cons pe_int (pa_cons pe_int (pa_cons pe_int (pa_cons pe_int pa_nil)))))))))) (pe_callB call_len_seq (by rfl) M.len PySem.boot_len (pa_cons (pv 0) pa_nil)) (fun _ _ => rfl)) pa_nil)) (pg_name (i := 4) sc_l_least_part.nd rfl (.inl rfl))
        (pss_cons (ps_set (i := 5) sc_l_least_part.nd rfl (.inr rfl) pe_dnewK)
        (pss_cons (ps_for PassesOwn.never rfl (pi_enum (by rfl) m_enumerate (pa_cons (pv 0) pa_nil)) (pg_tup rfl (pgs_cons (pg_name (i := 6) sc_l_least_part.nd rfl (.inl rfl)) (pgs_cons (pg_name (i := 7) sc_l_least_part.nd rfl (.inl rfl)) pgs_nil)))
          (pss_one (ps_dput hu (pv 5) (pv 7) (pe_op op_mod (pe_op op_fdivW (pv 4) (pe_ix ix_list (pe_lst (pa_cons pe_int (pa_cons pe_int (pa_cons pe_int (pa_cons pe_int (pa_cons pe_int (pa_cons pe_int (pa_cons pe_int (pa_cons pe_int pa_nil))))))))) (pv 6) (fun _ _ => rfl))) pe_int) rfl)))
        (pss_cons (ps_set (i := 8) sc_l_least_part.nd rfl (.inl rfl) (pe_callB (cr_sum rfl) (by rfl) M.sum (by decide +kernel) (pa_cons (pe_lc (own := [("_law_row", 3)]) (g := (gName 3)) rfl sc_l_least_part.nd (pi_list (pv 1)) (blkOk_by (N := N_l_least_part) (sc := defScope s_l_least_part) (own := [("_law_row", 3)]) (by decide +kernel)) (fun _ _ _ _ _ => (pg_name (i := 3) sc_l_least_part.nd rfl (.inl rfl))) (fun _ _ _ _ _ => (pts_one (pt_cmpR op_eq (pe_cmpR op_eq (pe_dget hu (pv 5) (pe_ix (r := rIxT K) ix_tup (pv 3) pe_int (fun _ _ => rfl)) (fun _ _ => rfl)) (pe_dget hu (pv 5) (pe_ix (r := rIxT K) ix_tup (pv 3) pe_int (fun _ _ => rfl)) (fun _ _ => rfl)) (nomark _)) (pe_cmpR op_eq (pe_ix (r := rIxT K) ix_tup (pv 3) pe_int (fun _ _ => rfl)) pe_str (nomark _)) (nomark _)))) (fun _ _ _ _ _ => (pe_ix (r := rIxT K) ix_tup (pv 3) pe_int (fun _ _ => rfl)))) pa_nil)))
        (pss_one (ps_set (i := 2) sc_l_least_part.nd rfl (.inl rfl) (pe_callB (call_min2 rfl) (by rfl) m_min (by decide +kernel) (pa_cons (pv 2) (pa_cons (pv 8) pa_nil)))))))))
      (pss_one (ps_ret (pv 2))))), ?_⟩
    obtain ⟨Qs, l, ePl⟩ : ∃ (Qs : List Int) (l : Int), P = Qs ++ [l] := ⟨P.dropLast, P.getLast pne, (List.dropLast_concat_getLast pne).symm⟩
    have lP : P.length = Qs.length + 1 := by rw [ePl, List.length_append]; rfl
    have lrows := Paired.length hrows
    have pw8 : ∀ k : Nat, k < 8 → atI [V.int 1, .int 2, .int 4, .int 8, .int 16, .int 32, .int 64, .int 128] (k : Nat) = some (.int ((2 ^ k : Nat) : Int)) := fun k hk =>
      match k, hk with
      | 0, _ => rfl | 1, _ => rfl | 2, _ => rfl | 3, _ => rfl | 4, _ => rfl | 5, _ => rfl | 6, _ => rfl | 7, _ => rfl
      | n + 8, h => by omega
    have pw9 : ∀ k : Nat, k < 8 → atI [V.int 1, .int 1, .int 2, .int 4, .int 8, .int 16, .int 32, .int 64, .int 128] ((k + 1 : Nat) : Int) = some (.int ((2 ^ k : Nat) : Int)) := fun k hk =>
      match k, hk with
      | 0, _ => rfl | 1, _ => rfl | 2, _ => rfl | 3, _ => rfl | 4, _ => rfl | 5, _ => rfl | 6, _ => rfl | 7, _ => rfl
      | n + 8, h => by omega
    have lg8 : ∀ k : Nat, k < 8 → (((2 ^ k : Nat) : Int)).natAbs.log2 < 9000 := fun k hk =>
      match k, hk with
      | 0, _ => by decide | 1, _ => by decide | 2, _ => by decide | 3, _ => by decide | 4, _ => by decide | 5, _ => by decide | 6, _ => by decide | 7, _ => by decide
      | n + 8, h => by omega
    have p128 : 2 ^ Qs.length ≤ 128 := by
      have : 2 ^ Qs.length ≤ 2 ^ 7 := Nat.pow_le_pow_right (by decide) (by omega)
      simpa using this
    refine ⟨.ref r, rfl, r, rfl, ⟨_, SqL.of hrr⟩, fun Z nZ => ?_⟩
    refine lc_list (xs := rows) (fun j H' => H' Z = some (.lst (((es.take j).map g).map V.int)) ∧ Same H H') ⟨upd_same, same_new nZ⟩ (fun j H' _ h => SqL.of (h.2 _ _ hrr)) ?_ ?_
    · rintro j x H1 ex ⟨hZ, s1⟩
      obtain ⟨e, ee, a, rfl, ha⟩ := Paired.at hrows ex
      have jl := (List.getElem?_eq_some_iff.mp ee).1
      refine ⟨rfl, .ref a, rfl, a, _, 3, _, rfl, rfl, SqT.of (s1 _ _ ha), rfl, _, hZ, by rw [List.length_map, List.length_map, List.length_take]; exact small1000 (by omega), ?_, fun b o e => by rw [upd_ne (ne_of_none e nZ)]; exact s1 b o e⟩
      rw [upd_same, sumW_take ee, List.map_append]
      rfl
    · rintro H1 ⟨hZ, s1⟩
      rw [lrows, List.take_length] at hZ
      refine ⟨Z, es.map g, rfl, SqL.of hZ, ?_⟩
      clear hZ
      refine ⟨by show 9 ≤ sizeLine; decide, fun Y nY => ?_⟩
      have s2 := s1.trans (same_new (o := .lst [V.int 1, .int 1, .int 2, .int 4, .int 8, .int 16, .int 32, .int 64, .int 128]) nY)
      have hY := upd_same (H := H1) (a := Y) (o := .lst [V.int 1, .int 1, .int 2, .int 4, .int 8, .int 16, .int 32, .int 64, .int 128])
      generalize upd H1 Y (.lst [V.int 1, .int 1, .int 2, .int 4, .int 8, .int 16, .int 32, .int 64, .int 128]) = H2 at s2 hY
      obtain ⟨N, eN⟩ : ∃ N, N = 2 ^ Qs.length := ⟨_, rfl⟩
      rw [← eN] at p128
      refine ⟨.ref p, rfl, p, _, rfl, .inl (SqL.of (s2 _ _ hp)), Y, _, _, .int (N : Int), rfl, rfl, SqL.of hY, (by rw [List.length_map, lP, eN]; exact pw9 _ (by omega)), _, rfl, by omega, by omega, ?_⟩
      refine for_range (lo := 0) (n := N) (fun i σ' H' => ∃ (y4 y5 y6 y7 y8 : Option V) (v : Int), σ' = [some (.ref p), some (.ref r), some (.int v), none, y4, y5, y6, y7, y8] ∧ LsT ts g es P i v ∧ Same H H') ⟨none, none, none, none, none, _, rfl, ⟨fun j hj => (by omega), .inl rfl, Int.le_refl _⟩, s2⟩ ?_ ?_
      · clear s1 s2 hY nY
        rintro i σ' H3 hi ⟨y4, y5, y6, y7, y8, v, rfl, lt, s3⟩
        refine fun d nd0 => ?_
        have nd1 := s3.free nd0
        have s4 := s3.trans (same_new (o := .dK []) nd0)
        have hd4 := upd_same (H := H3) (a := d) (o := .dK [])
        generalize upd H3 d (.dK []) = H4 at s4 hd4
        refine ⟨.ref p, rfl, p, _, rfl, SqL.of (s4 _ _ hp), ?_⟩
        refine for_it (walk_enum (xs := P.map V.int)) (fun k σ' H' => ∃ (y6 y7 : Option V), σ' = [some (.ref p), some (.ref r), some (.int v), none, some (.int (0 + (i : Nat))), some (.ref d), y6, y7, y8] ∧ H' d = some (.dK (kvOf (bitKs (P.take k) i))) ∧ Same H H') ⟨y6, y7, rfl, hd4, s4⟩ (fun k σ' H' _ h => by
          obtain ⟨_, _, _, _, h⟩ := h
          exact SqL.of (h _ _ hp)) ?_ ?_
        · clear s4 hd4
          rintro k x σ' H5 H6 hk ⟨y6, y7, rfl, hd5, s5⟩ ⟨T, x1, y, rfl, nT, rfl, e1, e2⟩
          obtain ⟨pl, epl, rfl⟩ : ∃ pl, P[k]? = some pl ∧ y = .int pl := by
            have e2 : (P.map V.int)[k]? = some y := e2
            rw [List.getElem?_map] at e2
            cases hP : P[k]? with
            | none => rw [hP] at e2; cases e2
            | some pl => rw [hP] at e2; exact ⟨pl, rfl, (Option.some.inj e2).symm⟩
          have kl := (List.getElem?_eq_some_iff.mp epl).1
          obtain rfl : V.int (k : Nat) = x1 := Option.some.inj e1
          have s6 := s5.trans (same_new (o := .tup [.int (k : Nat), .int pl]) nT)
          have hd6 := same_new (o := .tup [.int (k : Nat), .int pl]) nT _ _ hd5
          have hT6 := upd_same (H := H5) (a := T) (o := .tup [.int (k : Nat), .int pl])
          generalize upd H5 T (.tup [.int (k : Nat), .int pl]) = H6 at s6 hd6 hT6
          have etk : P.take (k + 1) = P.take k ++ [pl] := by rw [List.take_add_one, epl]; rfl
          have ltk : (P.take k).length = k := by rw [List.length_take]; omega
          have hput : pl ∉ (bitKs (P.take k) i).map (·.1) := by
            rw [bitKs_keys]
            have h1 := nd.sublist (List.take_sublist (k + 1) P)
            rw [etk, List.nodup_append] at h1
            exact fun z => h1.2.2 pl z pl (by simp) rfl
          have ep := kvOf_put (b := decide (i / 2 ^ k % 2 = 1)) hput
          have esn := bitKs_snoc (P.take k) pl i
          rw [ltk] at esn
          refine ⟨T, _, rfl, SqT.of hT6, rfl, _, _, rfl, _, _, rfl, rfl, ?_⟩
          refine ⟨.int (0 + (i : Nat)), rfl, by show 8 ≤ sizeLine; decide, fun Y nY => ⟨.int (k : Nat), rfl, Y, _, (k : Nat), .int ((2 ^ k : Nat) : Int), rfl, rfl, SqL.of upd_same, pw8 k (by omega), _, _, rfl, rfl, ⟨by have := Nat.two_pow_pos k; omega, lg8 k (by omega)⟩, _, _, rfl, rfl, (by show (0 : Int) < 2; decide), ?_⟩⟩
          have sY := same_new (o := .lst [V.int 1, .int 2, .int 4, .int 8, .int 16, .int 32, .int 64, .int 128]) nY
          refine ⟨.ref d, rfl, .int pl, rfl, d, _, rfl, DPut.k (k := Sum.inl pl) (sY _ _ hd6) (by rw [kvOf_len]; have := congrArg List.length (bitKs_keys (P.take k) i); rw [List.length_map] at this; exact small1000 (by omega)), ?_⟩
          refine ⟨_, _, rfl, ?_, Same.mut (s6.trans sY) nd1⟩
          rw [upd_same, etk, esn, ← ep]
          have ev : (0 + (i : Nat) : Int) / ((2 ^ k : Nat) : Int) % 2 = sideI (decide (i / 2 ^ k % 2 = 1)) := by
            rw [Int.zero_add, show ((i : Nat) : Int) / ((2 ^ k : Nat) : Int) % 2 = ((i / 2 ^ k % 2 : Nat) : Int) from by push_cast; rfl]
            by_cases h : i / 2 ^ k % 2 = 1
            · rw [h, decide_eq_true rfl]; rfl
            · rw [decide_eq_false h]
              show ((i / 2 ^ k % 2 : Nat) : Int) = 0
              omega
          show some (HO.dK (putK _ (Sum.inl pl) (V.int ((0 + (i : Nat) : Int) / ((2 ^ k : Nat) : Int) % 2)))) = _
          rw [ev]
        · clear s4 hd4
          rintro σ' H5 ⟨y6, y7, rfl, hd5, s5⟩
          rw [List.length_map, List.take_length] at hd5
          have ek := bitKs_keys P i
          generalize hks : bitKs P i = ks at hd5 ek
          have ndk : (ks.map (·.1)).Nodup := by rw [ek]; exact nd
          have gk : ∀ z ∈ P, DGet H5 d (.int z) (some (.int (sideI (cOf ks z)))) := fun z hz => by
            rw [← kvOf_some ndk (cOf_in nd ek hz)]
            exact DGet.k (k := Sum.inl z) hd5
          refine ⟨.ref r, rfl, r, rfl, ⟨_, SqL.of (s5 _ _ hrr)⟩, fun Y nY => ?_⟩
          refine lc_list (xs := rows) (fun j H' => H' Y = some (.lst (((badF ts (cOf ks) (es.take j)).map g).map V.int)) ∧ Same H5 H') ⟨upd_same, same_new nY⟩ (fun j H' _ h => SqL.of (h.2 _ _ (s5 _ _ hrr))) ?_ ?_
          · rintro j x H6 ex ⟨hY, s6⟩
            obtain ⟨e, ee, a, rfl, ha⟩ := Paired.at hrows ex
            have em := List.mem_of_getElem? ee
            have jl := (List.getElem?_eq_some_iff.mp ee).1
            have ha6 := s6 _ _ (s5 _ _ ha)
            have g1 : DGet H6 d (.int (tieAt ts e).one) (some (.int (sideI (cOf ks (tieAt ts e).one)))) := by
              rw [← kvOf_some ndk (cOf_in nd ek (cl e em).1)]
              exact DGet.k (k := Sum.inl _) (s6 _ _ hd5)
            have g2 : DGet H6 d (.int (tieAt ts e).other) (some (.int (sideI (cOf ks (tieAt ts e).other)))) := by
              rw [← kvOf_some ndk (cOf_in nd ek (cl e em).2)]
              exact DGet.k (k := Sum.inl _) (s6 _ _ hd5)
            refine ⟨rfl, .ref d, rfl, .ref a, rfl, a, _, 0, _, rfl, rfl, SqT.of ha6, rfl, d, _, rfl, g1, .ref d, rfl, .ref a, rfl, a, _, 1, _, rfl, rfl, SqT.of ha6, rfl, d, _, rfl, g2, rfl, .ref a, rfl, a, _, 2, _, rfl, rfl, SqT.of ha6, rfl, rfl, rfl, _, rfl, ?_⟩
            rw [eq_brk, sideI_eq]
            have eb : badF ts (cOf ks) (es.take (j + 1)) = badF ts (cOf ks) (es.take j) ++ (if brkF (cOf ks) (tieAt ts e) = true then [e] else []) := by
              unfold badF
              rw [List.take_add_one, ee, List.filter_append]
              congr 1
              show [e].filter _ = _
              cases hb : brkF (cOf ks) (tieAt ts e) with
              | true => rw [List.filter_cons, hb]; rfl
              | false => rw [List.filter_cons, hb]; rfl
            have lb : (badF ts (cOf ks) (es.take j)).length ≤ 120 := by
              unfold badF
              have h1 := List.length_filter_le (fun e => brkF (cOf ks) (tieAt ts e)) (es.take j)
              rw [List.length_take] at h1
              omega
            rw [eb]
            show if brkF (cOf ks) (tieAt ts e) = true then _ else _
            cases hb : brkF (cOf ks) (tieAt ts e) with
            | true =>
              rw [if_pos rfl, if_pos rfl]
              refine ⟨.ref a, rfl, a, _, 3, _, rfl, rfl, SqT.of ha6, rfl, _, hY, by rw [List.length_map, List.length_map]; exact small1000 (by omega), ?_, fun b o e => by rw [upd_ne (ne_of_none e nY)]; exact s6 b o e⟩
              rw [upd_same, List.map_append, List.map_append]
              rfl
            | false =>
              rw [if_neg Bool.false_ne_true, if_neg Bool.false_ne_true, List.append_nil]
              exact ⟨hY, s6⟩
          · rintro H6 ⟨hY, s6⟩
            rw [lrows, List.take_length] at hY
            refine ⟨Y, _, rfl, SqL.of hY, .int v, rfl, .int _, rfl, _, _, rfl, ?_⟩
            rw [← hks]
            exact ⟨_, _, _, _, _, _, rfl, lt.next gp, s5.trans s6⟩
      · rintro σ' H3 ⟨y4, y5, y6, y7, y8, v, rfl, lt, s3⟩
        refine ⟨_, rfl, q v H3 s3 ?_⟩
        rw [ePl] at lt nd cl
        rw [eN] at lt
        exact lt.done gp nd cl
end
/-! ### the law's least weight -/
def tiesAt (ts : List Tie) (es : List Int) : List Tie := es.map (tieAt ts)
theorem odd_tiesAt {ts : List Tie} {n : Nat} (ok : ∀ t ∈ ts, TieOk n t) (P : List Int) : Odd (tiesAt ts (tiesIn ts P)) n ↔ oddP ts P := by
  have ok' : ∀ t ∈ tiesAt ts (tiesIn ts P), TieOk n t := fun t ht => by
    obtain ⟨e, he, rfl⟩ := List.mem_map.mp ht
    exact ok _ (tieAt_mem (mem_rng.mpr (tiesIn_mem.mp he).1))
  constructor
  · rintro h ⟨c, hc⟩
    refine brk_no_odd (c := c) (fun t ht => ?_) h
    obtain ⟨e, he, rfl⟩ := List.mem_map.mp ht
    cases hb : brkF c (tieAt ts e) with
    | false => rfl
    | true =>
      have : e ∈ badF ts c (tiesIn ts P) := List.mem_filter.mpr ⟨he, hb⟩
      rw [hc] at this
      cases this
  · intro h
    refine Classical.byContradiction fun hn => h ?_
    obtain ⟨c, hc⟩ := no_odd_brk ok' hn
    refine ⟨c, List.filter_eq_nil_iff.mpr fun e he => ?_⟩
    rw [hc _ (List.mem_map.mpr ⟨e, he, rfl⟩)]
    exact Bool.false_ne_true
def spLLeast : Sp := fun vs H Q _ => ∃ (n : Nat) (t w : Addr) (us : List V) (ts : List Tie) (ws : List Int), vs = [.int n, .ref t, .ref w] ∧ H t = some (.tup us) ∧ Paired (TieV H) us ts ∧ WebOk n ts ∧ H w = some (.tup (ws.map V.int)) ∧ ws.length = ts.length ∧ (∀ x ∈ ws, (1 : Int) ≤ x) ∧ (∀ P ∈ partsTo ts n n, oddF ts P = true → P.length ≤ 8) ∧
  ∀ vs H', Same H H' → Paired (fun P v => LeastV ts (gW ws) (tiesIn ts P) v) (partsTo ts n n) vs → Q (.int vs.sum) H'
theorem gW_pos {ws : List Int} (h : ∀ x ∈ ws, (1 : Int) ≤ x) {e : Int} (h0 : 0 ≤ e) (h1 : e < (ws.length : Int)) : 1 ≤ gW ws e := by
  have hl : e.toNat < ws.length := by omega
  unfold gW
  rw [List.getD_eq_getElem?_getD, List.getElem?_eq_getElem hl]
  exact h _ (List.getElem_mem hl)
theorem sum_snoc (xs : List Int) (x : Int) : (xs ++ [x]).sum = xs.sum + x := by
  rw [List.sum_append]
  simp
section
variable {P : Program} {w : World} {K : PySem.W.Frag} {mg : Str → Option Value} {base : Heap}
set_option maxHeartbeats 8000000 in
theorem ok_l_least {f : Addr} {fd : FuncData} (F : Fun K "_law_least" "_law_least" s_l_least f fd) (M : Free mg) (m_enumerate : mg "enumerate" = none) (D_l_parts : Df P w K mg base 1 "_law_parts" ["_law_many", "_law_ties_here"] spLParts) (D_l_sides : Df P w K mg base 1 "_law_sides" ["_law_many", "_law_ties_here"] spLSides) (D_l_least_part : Df P w K mg base 1 "_law_least_part" ["_law_part", "_law_rows"] spLLeastPart) : FnOk P w K mg base CX0 2 f fd ["_law_many", "_law_ties_here", "_law_weights"] spLLeast := by
  obtain ⟨f_l_parts, fd_l_parts, G_l_parts, g_l_parts, k_l_parts, b_l_parts⟩ := D_l_parts
  obtain ⟨f_l_sides, fd_l_sides, G_l_sides, g_l_sides, k_l_sides, b_l_sides⟩ := D_l_sides
  obtain ⟨f_l_least_part, fd_l_least_part, G_l_least_part, g_l_least_part, k_l_least_part, b_l_least_part⟩ := D_l_least_part
  refine F.ok sc_l_least (fun vs H Q E h => ?_) (fun cdv A outer s H vs Q E hr h => ?_)
  · obtain ⟨n, t, w, us, ts, ws, rfl, _⟩ := h
    rfl
  · obtain ⟨n, t, w, us, ts, ws, rfl, ht, hp, ok, hw, lw, pos, b8, q⟩ := h
    refine ⟨_, (pss_cons (ps_set (i := 3) sc_l_least.nd rfl (.inl rfl) pe_int)
      (pss_cons (ps_for PassesOwn.never rfl (pi_list (pe_call G_l_parts (hr.mono (by decide)) (by rfl) g_l_parts k_l_parts b_l_parts .nil pass0 (pa_cons (pv 0) (pa_cons (pv 1) pa_nil)))) (pg_name (i := 4) sc_l_least.nd rfl (.inr rfl))
        (pss_cons (ps_setLc (i := 5) (own := [("_law_k", 6), ("_law_tie", 7)]) (g := (gTup K 2 (gCons (gName 6) (gCons (gName 7) gNil)))) (te := tVar 6) rfl sc_l_least.nd rfl rfl (sw_true rfl rfl rfl (by decide +kernel)) (pi_enumT (by rfl) m_enumerate (pa_cons (pv 1) pa_nil)) (blkOk_by (N := N_l_least) (sc := defScope s_l_least) (own := [("_law_k", 6), ("_law_tie", 7)]) (by decide +kernel)) (fun _ _ _ _ _ => (pg_tup rfl (pgs_cons (pg_name (i := 6) sc_l_least.nd rfl (.inl rfl)) (pgs_cons (pg_name (i := 7) sc_l_least.nd rfl (.inl rfl)) pgs_nil)))) (fun _ _ _ _ _ => (pts_one (pt_cmpR (r := rIn K false) op_in_seq (pe_ix (r := rIxT K) ix_tup (pv 7) pe_int (fun _ _ => rfl)) (pv 4) rfl))) (fun _ _ _ _ _ => (pv 6)))
        (pss_one (ps_if (pt_cmpR op_isN (pe_call G_l_sides (hr.mono (by decide)) (by rfl) g_l_sides k_l_sides b_l_sides .nil pass0 (pa_cons (pv 0) (pa_cons (pe_lc (own := [("_law_k", 6)]) (g := (gName 6)) (tt := tYes) rfl sc_l_least.nd (pi_list (pv 5)) (blkOk_by (N := N_l_least) (sc := defScope s_l_least) (own := [("_law_k", 6)]) (by decide +kernel)) (fun _ _ _ _ _ => (pg_name (i := 6) sc_l_least.nd rfl (.inl rfl))) (fun _ _ _ _ _ => pts_nil) (fun _ _ _ _ _ => (pe_ix (r := rIxT K) ix_tup (pv 1) (pv 6) (fun _ _ => rfl)))) pa_nil))) pe_non (nomark _))
          (pss_cons (ps_if (pt_cmpR op_gt (pe_callB call_len_seq (by rfl) M.len PySem.boot_len (pa_cons (pv 4) pa_nil)) pe_int (nomark _))
            (pss_one (ps_ret pe_non))
            pss_nil)
          (pss_one (ps_set (i := 3) sc_l_least.nd rfl (.inl rfl) (pe_op op_add (pv 3) (pe_call G_l_least_part (hr.mono (by decide)) (by rfl) g_l_least_part k_l_least_part b_l_least_part .nil pass0 (pa_cons (pv 4) (pa_cons (pe_lc (own := [("_law_k", 6)]) (g := (gName 6)) (tt := tYes) rfl sc_l_least.nd (pi_list (pv 5)) (blkOk_by (N := N_l_least) (sc := defScope s_l_least) (own := [("_law_k", 6)]) (by decide +kernel)) (fun _ _ _ _ _ => (pg_name (i := 6) sc_l_least.nd rfl (.inl rfl))) (fun _ _ _ _ _ => pts_nil) (fun _ _ _ _ _ => (pe_op op_catU (pe_ix (r := rIxT K) ix_tup (pv 1) (pv 6) (fun _ _ => rfl)) (pe_tup (pa_cons (pe_ix (r := rIxT K) ix_tup (pv 2) (pv 6) (fun _ _ => rfl)) pa_nil))))) pa_nil)))))))
          pss_nil))))
      (pss_one (ps_ret (pv 3))))), ?_⟩
    have few := ok.few
    have hlen : us.length = ts.length := Paired.length hp
    have pt := parts_of_web ok.ok
    refine ⟨.int n, rfl, .ref t, rfl, n, t, us, ts, rfl, ht, hp, ok, fun L fs H1 s1 hL hfs => ?_⟩
    refine ⟨L, rfl, ⟨_, SqL.of hL⟩, ?_⟩
    have lfs := Paired.length hfs
    refine for_list (xs := fs) (fun i σ' H' => ∃ (y4 y5 : Option V) (vs : List Int), σ' = [some (.int n), some (.ref t), some (.ref w), some (.int vs.sum), y4, y5, none, none] ∧ Same H1 H' ∧ Paired (fun P v => LeastV ts (gW ws) (tiesIn ts P) v) ((partsTo ts n n).take i) vs) ⟨none, none, [], rfl, Same.refl _, .nil⟩ (fun i σ' H' _ h => by
      obtain ⟨_, _, _, _, h, _⟩ := h
      exact SqL.of (h _ _ hL)) ?_ ?_
    · rintro i x σ' H2 ex ⟨y4, y5, vs, rfl, s2, hvs⟩
      obtain ⟨P, eP, a, rfl, ha⟩ := Paired.at hfs ex
      have hPm := List.mem_of_getElem? eP
      have cl := tiesIn_cl pt hPm
      have s02 := s1.trans s2
      have ltI := tiesIn_len ts P
      refine ⟨.ref t, rfl, t, us, rfl, SqT.of (s02 _ _ ht), fun Z nZ => ?_⟩
      refine lc_it (walk_enumT (xs := us)) (fun i H' => H' Z = some (.lst ((tiesTo ts P i).map V.int)) ∧ Same H2 H') ⟨upd_same, same_new nZ⟩ (fun i H' _ h => SqT.of (h.2 _ _ (s02 _ _ ht))) ?_ ?_
      · rintro i x H3 H4 hi ⟨hZ, s3⟩ ⟨T, x1, y, rfl, nT, rfl, e1, e2⟩
        obtain rfl : V.int (i : Nat) = x1 := Option.some.inj e1
        obtain ⟨u, et, c, rfl, hc⟩ := Paired.at hp e2
        have s4 := s3.trans (same_new (o := .tup [.int (i : Nat), .ref c]) nT)
        have s04 := s02.trans s4
        have hZ2 := same_new (o := .tup [.int (i : Nat), .ref c]) nT _ _ hZ
        refine ⟨T, _, rfl, SqT.of upd_same, rfl, _, _, rfl, _, _, rfl, rfl, rfl, .ref c, rfl, c, _, 0, _, rfl, rfl, SqT.of (s04 _ _ hc), rfl, .ref a, rfl, a, _, rfl, .inl (SqL.of (s4 _ _ (s2 _ _ ha))), rfl, flat_ints _, _, rfl, ?_⟩
        have et2 := tieAt_of et
        have lb := tiesTo_len ts P i
        rw [tiesTo_succ, et2, List.map_append, in_ints]
        cases hb : P.contains u.one with
        | true =>
          rw [if_pos (List.contains_iff_mem.mp hb)]
          exact ⟨.int i, rfl, _, hZ2, by rw [List.length_map]; exact small1000 (by omega), upd_same, fun b o e => by rw [upd_ne (ne_of_none e nZ)]; exact s4 b o e⟩
        | false =>
          rw [if_neg (fun z => by rw [List.contains_iff_mem.mpr z] at hb; cases hb), List.map_nil, List.append_nil]
          exact ⟨hZ2, s4⟩
      · rintro H3 ⟨hZ, s3⟩
        rw [hlen] at hZ
        have hZ : H3 Z = some (.lst ((tiesIn ts P).map V.int)) := hZ
        have s03 := s02.trans s3
        refine ⟨.int n, rfl, .ref Z, rfl, Z, rfl, ⟨_, SqL.of hZ⟩, fun Y nY => ?_⟩
        have tieV : ∀ e ∈ tiesIn ts P, ∃ c, atI us e = some (.ref c) ∧ H c = some (.tup [.int (tieAt ts e).one, .int (tieAt ts e).other, .str (kindS (tieAt ts e).foe)]) := fun e he => by
          have er := (tiesIn_mem.mp he).1
          obtain ⟨ut, eut, euo⟩ := getI (xs := us) er.1 (by omega)
          obtain ⟨t', et', cc, rfl, hcc⟩ := Paired.at hp euo
          have ett : tieAt ts e = t' := by
            have := tieAt_of et'
            rw [Int.toNat_of_nonneg er.1] at this
            exact this
          exact ⟨cc, eut, by rw [ett]; exact hcc⟩
        refine lc_list (xs := (tiesIn ts P).map V.int) (fun j H' => ∃ vs', H' Y = some (.lst vs') ∧ Paired (TieV H') vs' (tiesAt ts ((tiesIn ts P).take j)) ∧ Same H3 H') ⟨[], upd_same, .nil, same_new nY⟩ (fun j H' _ h => by
          obtain ⟨_, _, _, h⟩ := h
          exact SqL.of (h _ _ hZ)) ?_ ?_
        · rintro j x H4 ej ⟨vs', hY, hv, s4⟩
          obtain ⟨e, ee, rfl⟩ : ∃ e, (tiesIn ts P)[j]? = some e ∧ x = .int e := by
            rw [List.getElem?_map] at ej
            cases hP : (tiesIn ts P)[j]? with
            | none => rw [hP] at ej; cases ej
            | some pl => rw [hP] at ej; exact ⟨pl, rfl, (Option.some.inj ej).symm⟩
          have jl := (List.getElem?_eq_some_iff.mp ee).1
          obtain ⟨c, ec, hc⟩ := tieV e (List.mem_of_getElem? ee)
          have lv := Paired.length hv
          unfold tiesAt at lv
          rw [List.length_map, List.length_take] at lv
          refine ⟨rfl, .ref t, rfl, .int e, rfl, t, us, e, .ref c, rfl, rfl, SqT.of (s4 _ _ (s03 _ _ ht)), ec, vs', hY, small1000 (by omega), vs' ++ [.ref c], upd_same, ?_, fun b o e => by rw [upd_ne (ne_of_none e nY)]; exact s4 b o e⟩
          have sm : ∀ {v : V} {t : Tie}, TieV H4 v t → TieV (upd H4 Y (.lst (vs' ++ [.ref c]))) v t := fun {v t} x => by
            obtain ⟨a, e, h⟩ := x
            exact ⟨a, e, by rw [upd_ne (fun z => by rw [z, hY] at h; cases h)]; exact h⟩
          have et : tiesAt ts ((tiesIn ts P).take (j + 1)) = tiesAt ts ((tiesIn ts P).take j) ++ [tieAt ts e] := by
            unfold tiesAt
            rw [List.take_add_one, ee, List.map_append]
            rfl
          rw [et]
          exact Paired.snoc (Paired.mono (fun _ _ x => sm x) hv) (sm ⟨c, rfl, s4 _ _ (s03 _ _ hc)⟩)
        · rintro H4 ⟨vs', hY, hv, s4⟩
          rw [List.length_map, List.take_length] at hv
          have okA : WebOk n (tiesAt ts (tiesIn ts P)) := ⟨ok.lo, ok.hi, by unfold tiesAt; rw [List.length_map]; omega, fun t ht => by
            obtain ⟨e, he, rfl⟩ := List.mem_map.mp ht
            exact ok.ok _ (tieAt_mem (mem_rng.mpr (tiesIn_mem.mp he).1))⟩
          refine ⟨n, Y, vs', _, rfl, hY, hv, okA, fun r H5 s5 hr' => ⟨rfl, _, rfl, ?_⟩⟩
          rw [odd_tiesAt ok.ok P] at hr'
          have s35 := s4.trans s5
          have s25 := s3.trans s35
          by_cases hn : r = .non
          · rw [decide_eq_true hn]
            have od := hr'.mp hn
            have l8 := b8 P hPm (@decide_eq_true _ (_) od)
            refine ⟨.ref a, rfl, a, _, rfl, .inl (SqL.of (s25 _ _ (s2 _ _ ha))), _, 8, rfl, rfl, _, rfl, ?_⟩
            rw [decide_eq_false (show ¬ (8 : Int) < ((P.map V.int).length : Nat) by rw [List.length_map]; omega)]
            refine ⟨.int _, rfl, .ref a, rfl, .ref Z, rfl, Z, rfl, ⟨_, SqL.of (s35 _ _ hZ)⟩, fun X nX => ?_⟩
            have s05 := s03.trans s35
            refine lc_list (xs := (tiesIn ts P).map V.int) (fun j H' => ∃ rs, H' X = some (.lst rs) ∧ Paired (RowL H' ts (gW ws)) rs ((tiesIn ts P).take j) ∧ Same H5 H') ⟨[], upd_same, .nil, same_new nX⟩ (fun j H' _ h => by
              obtain ⟨_, _, _, h⟩ := h
              exact SqL.of (h _ _ (s35 _ _ hZ))) ?_ ?_
            · rintro j x H6 ej ⟨rs, hX, hrs, s6⟩
              obtain ⟨e, ee, rfl⟩ : ∃ e, (tiesIn ts P)[j]? = some e ∧ x = .int e := by
                rw [List.getElem?_map] at ej
                cases hP : (tiesIn ts P)[j]? with
                | none => rw [hP] at ej; cases ej
                | some pl => rw [hP] at ej; exact ⟨pl, rfl, (Option.some.inj ej).symm⟩
              have jl := (List.getElem?_eq_some_iff.mp ee).1
              have em := List.mem_of_getElem? ee
              have er := (tiesIn_mem.mp em).1
              obtain ⟨c, ec, hc⟩ := tieV e em
              have s06 := s05.trans s6
              have lv := Paired.length hrs
              rw [List.length_take] at lv
              refine ⟨rfl, .ref t, rfl, .int e, rfl, t, us, e, .ref c, rfl, rfl, SqT.of (s06 _ _ ht), ec, .ref w, rfl, .int e, rfl, w, _, e, .int (gW ws e), rfl, rfl, SqT.of (s06 _ _ hw), gW_at er.1 (by omega), by show 1 ≤ sizeLine; decide, fun D nD => ?_⟩
              have sD := same_new (o := .tup [.int (gW ws e)]) nD
              refine ⟨c, D, _, _, rfl, rfl, sD _ _ (s06 _ _ hc), upd_same, by show 4 ≤ 100000; decide, fun r H7 s7 hr7 => ?_⟩
              have s67 := sD.trans s7
              have hX7 := s67 _ _ hX
              refine ⟨rs, hX7, small1000 (by omega), rs ++ [.ref r], upd_same, ?_, fun b o e => by rw [upd_ne (ne_of_none e nX)]; exact s67 _ _ (s6 b o e)⟩
              rw [List.take_add_one, ee]
              have tkL := tk_lst (ys := rs ++ [.ref r]) hX7
              exact Paired.snoc (Paired.mono (fun _ _ x => (x.tk (Same.tk s67)).tk tkL) hrs) ⟨r, rfl, tkL _ _ hr7⟩
            · rintro H6 ⟨rs, hX, hrs, s6⟩
              rw [List.length_map, List.take_length] at hrs
              refine ⟨a, X, rs, ts, gW ws, P, tiesIn ts P, rfl, s6 _ _ (s25 _ _ (s2 _ _ ha)), hX, hrs, by omega, fun e he => (by
                have er := (tiesIn_mem.mp he).1
                exact gW_pos pos er.1 (by omega)), (part_pw hPm).imp (fun {a b} h => by omega), part_ne hPm, l8, cl, fun v H7 s7 hv => ⟨_, _, rfl, rfl, ?_⟩⟩
              refine ⟨some (.ref a), some (.ref Z), vs ++ [v], ?_, (s2.trans s25).trans (s6.trans s7), ?_⟩
              · rw [sum_snoc]
                rfl
              · rw [List.take_add_one, eP]
                exact Paired.snoc hvs hv
          · rw [decide_eq_false hn]
            have ev : ¬ oddP ts P := fun z => hn (hr'.mpr z)
            obtain ⟨c, hc⟩ := Classical.not_not.mp ev
            have l0 : LeastV ts (gW ws) (tiesIn ts P) 0 := (LexMin.zero (fun e he => by
              have er := (tiesIn_mem.mp he).1
              exact gW_pos pos er.1 (by omega)) hc).val
            refine ⟨some (.ref a), some (.ref Z), vs ++ [0], ?_, s2.trans s25, ?_⟩
            · rw [sum_snoc, Int.add_zero]
              rfl
            · rw [List.take_add_one, eP]
              exact Paired.snoc hvs l0
    · rintro σ' H2 ⟨y4, y5, vs, rfl, s2, hvs⟩
      rw [lfs, List.take_length] at hvs
      exact ⟨_, rfl, q vs H2 (s1.trans s2) hvs⟩
end
/-! ### what the law tells right -/
def keepTo (ts : List Tie) (ks : List Int) (j : Nat) : List Tie := ((rng j).filter fun i => !ks.contains i).map (tieAt ts)
theorem keepTo_succ (ts : List Tie) (ks : List Int) (j : Nat) : keepTo ts ks (j + 1) = keepTo ts ks j ++ (if ks.contains (j : Int) = true then [] else [tieAt ts j]) := by
  unfold keepTo
  rw [rng_succ, List.filter_append, List.map_append]
  congr 1
  by_cases h : (j : Int) ∈ ks
  · rw [List.filter_cons_of_neg (by simp [h]), if_pos (by simpa using h)]
    rfl
  · rw [List.filter_cons_of_pos (by simp [h]), if_neg (by simpa using h)]
    rfl
theorem keepTo_len (ts : List Tie) (ks : List Int) (j : Nat) : (keepTo ts ks j).length ≤ j := by
  unfold keepTo
  rw [List.length_map]
  have := List.length_filter_le (fun i => !ks.contains i) (rng j)
  rw [rng_length] at this
  exact this
theorem keepTo_mem {ts : List Tie} {ks : List Int} {t : Tie} (h : t ∈ keepTo ts ks ts.length) : t ∈ ts := by
  unfold keepTo at h
  obtain ⟨i, hi, rfl⟩ := List.mem_map.mp h
  exact tieAt_mem (List.mem_filter.mp hi).1
theorem keepTo_ok {n : Int} {ts : List Tie} (ok : WebOk n ts) (ks : List Int) : WebOk n (keepTo ts ks ts.length) := ⟨ok.lo, ok.hi, by have := keepTo_len ts ks ts.length; have := ok.few; omega, fun t ht => ok.ok t (keepTo_mem ht)⟩
theorem kit_ty38 {K : PySem.W.Frag} {a b : String} {r : Bool} (h : PySem.W.kitOne K (.type a) (.type b) = some r) : PySem.W.kitOne K (.type a) (.type b) = some r := h
def spLIsWhole : Sp := fun vs H Q _ => ∃ i, vs = [.int i] ∧ Q (.bl true) H
def spToldRight : Sp := fun vs H Q _ => ∃ (wv v : V) (w : Addr) (n : Nat) (ts : List Tie) (ws : List Int) (c : Int → Bool), vs = [wv, .ref w, .int (sumW (gW ws) (badF ts c (rng ts.length))), v] ∧ WebAt H wv n ts ∧ WebOk n ts ∧ H w = some (.tup (ws.map V.int)) ∧ ws.length = ts.length ∧ WLV H v (sumW (gW ws) (badF ts c (rng ts.length)), badF ts c (rng ts.length)) ∧ ∀ H', Same H H' → Q (.bl true) H'
theorem keep_brk {ts : List Tie} {c : Int → Bool} : ∀ t ∈ keepTo ts (badF ts c (rng ts.length)) ts.length, brkF c t = false := fun t ht => by
  unfold keepTo at ht
  obtain ⟨e, he, rfl⟩ := List.mem_map.mp ht
  rw [List.mem_filter] at he
  cases hb : brkF c (tieAt ts e) with
  | false => rfl
  | true =>
    have h2 := he.2
    rw [List.contains_iff_mem.mpr (show e ∈ badF ts c (rng ts.length) from List.mem_filter.mpr ⟨he.1, hb⟩)] at h2
    cases h2
section
variable {P : Program} {w : World} {K : PySem.W.Frag} {mg : Str → Option Value} {base : Heap}
end
/-! ### a tuple times one is the tuple -/
theorem tuple_mul1 (l : Addr) (items : Array Value) (n : Nat) (dd : Option Addr) (sl : Array (Option Value)) (u : Tok) :
    Meets (Builtin.«tuple.__mul__» ⟨[.ref l, .int 1 u], []⟩) (fun _ R s => s.heap.get? l = some { cls := .type "tuple", dict := dd, data := .seq items n, slots := sl } ∧ R (.ok (.ret (Value.ref l))) s) :=
  .of_wp fun prog w A R s h => by
    obtain ⟨hp, g, d, tk, os⟩ := s
    obtain ⟨hl, h⟩ := h
    have f1 := AutoSeq1.idx_int
    have c1 : (items.isEmpty || (1 : Int) == 1) = true := by simp
    wp_walk using wpAny_loadPart' hl
    repeat (first
      | (refine wpAny_ite_false (decide_eq_false (by decide)) ?_; wp_walk using wpAny_loadPart' hl)
      | (refine wpAny_ite_true (decide_eq_true c1) ?_; wp_walk using wpAny_loadPart' hl))
    exact ⟨_, rfl, h⟩
def rRep1 (K : PySem.W.Frag) : R2 := fun x y H Q => ∃ l xs, x = .ref l ∧ y = .int 1 ∧ SqT K H l xs ∧ Q (.ref l) H
theorem op_rep1 {X : Cx} : OpR X (binaryOp .Mult) (rRep1 X.K) := by
  intro pins s σ H x y v u Q I rx ry h
  obtain ⟨l, xs, rfl, rfl, hT, q⟩ := h
  cases rx
  obtain ⟨t, rfl⟩ := ry
  obtain ⟨its, r, ⟨⟨cls, dd, data, sl⟩, ho, hc, n, hd⟩, hs⟩ := I.tuple hT
  simp only at hc hd
  subst hc hd
  refine wpAny_binaryOp_repeat_ref (T := "tuple") (U := "int") (by decide) ⟨_, ho, rfl⟩ (fun s' => typeIs_int s' 1 t) noFill_tuple_mul F.fills_int_mul F.slot_int_rmul repeat_tuple F.slot_int_index.lookup
    (call_meets F.slot_int_rmul (typeIs_int s 1 t) F.entry_int_rmul (F.args_int_rmul_2 _ _) (int_rmul_tuple 1 t l its.toArray n dd sl)
      ⟨ho, rfl, ⟨_, ho, rfl⟩, call_meets F.slot_tuple_mul ⟨_, ho, rfl⟩ F.entry_tuple_mul (F.args_tuple_mul_2 _ _) (tuple_mul1 l its.toArray n dd sl t) ⟨ho, ?_⟩⟩)
  exact ⟨.ref l, H, I, rfl, q⟩
/-- one or more times: the same tuple, or a new one -/
def rRepA (K : PySem.W.Frag) : R2 := fun x y H Q => ∃ l k xs, x = .ref l ∧ y = .int k ∧ SqT K H l xs ∧ xs ≠ [] ∧ 1 ≤ k ∧ k ≤ 1000 ∧ xs.length ≤ 1000 ∧ (k = 1 → Q (.ref l) H) ∧ ∀ p, H p = none → Q (.ref p) (upd H p (.tup (List.replicate k.toNat xs).flatten))
theorem op_repA {X : Cx} : OpR X (binaryOp .Mult) (rRepA X.K) := by
  intro pins s σ H x y v u Q I rx ry h
  obtain ⟨l, k, xs, ex, ey, hT, hne, h1, h2, hz, q1, q2⟩ := h
  by_cases e : k = 1
  · exact op_rep1 pins s σ H x y v u Q I rx ry ⟨l, xs, ex, by rw [ey, e], hT, q1 e⟩
  · exact op_repT pins s σ H x y v u Q I rx ry ⟨l, k, xs, ex, ey, hT, hne, by omega, h2, hz, q2⟩
/-! ### a tuple times nought -/
theorem tuple_mulZ (l : Addr) (items : Array Value) (n : Nat) (dd : Option Addr) (sl : Array (Option Value)) (u : Tok) (hi : items.isEmpty = false) :
    Meets (Builtin.«tuple.__mul__» ⟨[.ref l, .int 0 u], []⟩) (fun _ R s => s.heap.get? l = some { cls := .type "tuple", dict := dd, data := .seq items n, slots := sl } ∧
      R (.ok (.ret (Value.ref s.heap.objs.size))) { s with heap := s.heap.push { cls := Value.type "tuple", data := Data.seq #[] }, toks := s.toks }) :=
  .of_wp fun prog w A R s h => by
    obtain ⟨hp, g, d, tk, os⟩ := s
    obtain ⟨hl, h⟩ := h
    have f1 := AutoSeq1.idx_int
    have c1 : (items.isEmpty || (0 : Int) == 1) = false := by rw [hi]; rfl
    wp_walk using wpAny_loadPart' hl
    repeat (first
      | (refine wpAny_ite_false (decide_eq_false (by decide)) ?_; wp_walk using wpAny_loadPart' hl)
      | (refine wpAny_ite_false (decide_eq_false (by rw [c1]; exact Bool.false_ne_true)) ?_; wp_walk using wpAny_loadPart' hl)
      | (refine wpAny_ite_true (decide_eq_true (by simp)) ?_; wp_walk using wpAny_loadPart' hl))
    exact ⟨_, rfl, h⟩
def rRepZ (K : PySem.W.Frag) : R2 := fun x y H Q => ∃ l k xs, x = .ref l ∧ y = .int k ∧ SqT K H l xs ∧ xs ≠ [] ∧ 0 ≤ k ∧ k ≤ 1000 ∧ xs.length ≤ 1000 ∧ (k = 1 → Q (.ref l) H) ∧ ∀ p, H p = none → Q (.ref p) (upd H p (.tup (List.replicate k.toNat xs).flatten))
theorem op_repZ {X : Cx} : OpR X (binaryOp .Mult) (rRepZ X.K) := by
  intro pins s σ H x y v u Q I rx ry h
  obtain ⟨l, k, xs, ex, ey, hT, hne, h1, h2, hz, q1, q2⟩ := h
  by_cases e : k = 0
  · subst e
    subst ex ey
    cases rx
    obtain ⟨t, rfl⟩ := ry
    obtain ⟨its, r, ⟨⟨cls, dd, data, sl⟩, ho, hc, n, hd⟩, hs⟩ := I.tuple hT
    simp only at hc hd
    subst hc hd
    have hle : its.length = xs.length := r.length.symm
    have hn : its ≠ [] := fun e => hne (by
      rw [e] at hle
      exact List.eq_nil_of_length_eq_zero hle.symm)
    have hi : its.toArray.isEmpty = false := by
      cases its with
      | nil => exact absurd rfl hn
      | cons a b => rfl
    refine wpAny_binaryOp_repeat_ref (T := "tuple") (U := "int") (by decide) ⟨_, ho, rfl⟩ (fun s' => typeIs_int s' 0 t) noFill_tuple_mul F.fills_int_mul F.slot_int_rmul repeat_tuple F.slot_int_index.lookup
      (call_meets F.slot_int_rmul (typeIs_int s 0 t) F.entry_int_rmul (F.args_int_rmul_2 _ _) (int_rmul_tuple 0 t l its.toArray n dd sl)
        ⟨ho, rfl, ⟨_, ho, rfl⟩, call_meets F.slot_tuple_mul ⟨_, ho, rfl⟩ F.entry_tuple_mul (F.args_tuple_mul_2 _ _) (tuple_mulZ l its.toArray n dd sl t hi) ⟨ho, ?_⟩⟩)
    refine ⟨.ref s.heap.objs.size, _, I.laid (t' := s.toks) (o := .tup []) (fun b ob q => Heap.get?_push_of_some _ q) (Nat.le_refl _) ?_, rfl, q2 _ (I.hok.fresh (Nat.le_refl _))⟩
    exact ⟨Nat.zero_le _, [], .nil, IsTup.new _ _⟩
  · exact op_repA pins s σ H x y v u Q I rx ry ⟨l, k, xs, ex, ey, hT, hne, by omega, h2, hz, q1, q2⟩
/-! ### k38: the law -/
def DfD (P : Program) (w : World) (K : PySem.W.Frag) (mg : Str → Option Value) (base : Heap) (k : Nat) (x : Str) (ps : List Str) (sp : Sp) (dvs : List V) : Prop := ∃ f fd, FnOk P w K mg base CX0 k f fd ps sp ∧ mg x = some (.ref f) ∧ PySem.W.keepIn K (.ref f) = true ∧ L2.Binds K fd ps [] ∧ ∃ ds, Vals dvs ds ∧ L2.Binds K fd ps ds
theorem DckKt {Ps : List Addr} {d c : Addr} {H H' : Hp} (k : Kt Ps H H') (t : Tabs Ps H) (D : Deck H d c) : Deck H' d c := by
  obtain ⟨cells, st, n, h1, h2, h3⟩ := D
  exact ⟨cells, st, n, by first | exact k.dct t h1 | exact k.lst t h1, k.lst t h2, h3⟩
theorem Tabs.kp {Ps : List Addr} {d c : Addr} {H H' : Hp} (t : Tabs Ps H) (k : Kp d c H H') (D : Deck H d c) : Tabs Ps H' := fun P hP => by
  obtain ⟨ps, e, x⟩ := t P hP
  obtain ⟨cells, st, n, e1, e2, _⟩ := D
  exact ⟨ps, k _ _ (ne_of e e1 (by intro z; cases z)) (ne_of e e2 (by intro z; cases z)) e, x⟩
theorem Tabs.same {Ps : List Addr} {H H' : Hp} (t : Tabs Ps H) (s : Same H H') : Tabs Ps H' := (Kt.same t s).tab
theorem dp_wl {K : PySem.W.Frag} {H : Hp} {v : V} {q : WL} (h : WLV H v q) : Dp K H v (pW q) := by
  obtain ⟨a, b, rfl, e, e2⟩ := h
  exact .tup (SqT.of e) (.cons (.int _) (.cons (.tup (SqT.of e2) (dp_ints _)) .nil))
theorem shaped_pW (q : WL) : SeqAt.shaped (pW q) = true := by
  unfold SeqAt.shaped pW
  simp [PyData.canLay0, PyData.canLayAll0, PyData.depth, PyData.depthAll, lay_ints, deep_ints]
theorem eqv_pW (q : WL) : PyData.eqv (pW q) (pW q) = true := by
  have h := PySem.W.Datum.eqv (wT q) (wT q)
  rw [decide_eq_true rfl] at h
  exact h
theorem wts_tup {H : Hp} {a : Addr} {ws : List Int} {m : Nat} (h : H a = some (.tup (ws.map V.int))) (l : ws.length = m) : Wts H (.ref a) (rng m) (gW ws) := .inr ⟨a, ws, rfl, h, fun x hx => ⟨by have := mem_rng.mp hx; omega, rfl⟩⟩
theorem gW_ones {m : Nat} {e : Int} (h : e ∈ rng m) : gW (List.replicate m 1) e = 1 := by
  have h := mem_rng.mp h
  unfold gW
  rw [List.getD_eq_getElem?_getD, List.getElem?_replicate_of_lt (by omega)]
  rfl
/-- what is told is one, and the law's number is its weight -/
theorem due_told {ts : List Tie} {n : Nat} {g : Int → Int} {xs : List WL} {c : Int → Bool} {vs : List Int} (h : ToldL ts n g xs c) (k : Paired (fun P v => LeastV ts g (tiesIn ts P) v) (partsTo ts n n) vs) : vs.sum = sumW g (badF ts c (rng ts.length)) := by
  rw [vals_one h.lex k, h.sum]
theorem told_one {ts : List Tie} {n : Nat} {g : Int → Int} {xs ys : List WL} {c d : Int → Bool} (h : ToldL ts n g xs c) (k : ToldL ts n g ys d) : badF ts c (rng ts.length) = badF ts d (rng ts.length) := by
  have e := lex_one h.lex k.lex
  subst e
  exact rising_ext (badF_rising ts c _) (badF_rising ts d _) fun z => by rw [← h.perm.mem_iff, k.perm.mem_iff]
def spLaw (K : PySem.W.Frag) (Ps : List Addr) : Sp := fun vs H Q _ => ∃ (a : Addr) (ns : List Int), vs = [.ref a] ∧ SqL K H a (ns.map V.int) ∧ ns.length ≤ 63 ∧ Tabs Ps H ∧ ∀ H', Q (.bl true) H'
/-! ### webs of many small parts: mathematics -/
theorem eras_map (f : Int → V) : ∀ (xs : List Int) (k : Nat), (xs.map f).eraseIdx k = (xs.eraseIdx k).map f
  | [], _ => rfl
  | x :: xs, 0 => rfl
  | x :: xs, k + 1 => by
    show f x :: (xs.map f).eraseIdx k = f x :: (xs.eraseIdx k).map f
    rw [eras_map f xs k]
theorem eras_perm : ∀ {xs : List Int} {k : Nat} {y : Int}, xs[k]? = some y → (y :: xs.eraseIdx k).Perm xs
  | x :: xs, 0, y, h => by
    obtain rfl := Option.some.inj h
    exact List.Perm.refl _
  | x :: xs, k + 1, y, h => by
    have h : xs[k]? = some y := h
    exact (List.Perm.swap x y _).trans ((eras_perm h).cons x)
def ren (os : List Int) (t : Tie) : Tie := ⟨os.getD t.one.toNat 0, os.getD t.other.toNat 0, t.foe⟩
structure Pcs (n : Nat) (ts : List Tie) (k : Nat) (pc : Int → Int) : Prop where
  ok : ∀ t ∈ ts, TieOk n t
  same : ∀ t ∈ ts, pc t.one = pc t.other
  few : ∀ i, ((rng n).filter fun p => decide (pc p = i)).length ≤ 8
  lt : ∀ p : Int, 0 ≤ p → p < n → pc p < k
theorem rng_add (n : Nat) : ∀ s : Nat, rng (n + s) = rng n ++ (rng s).map (fun p => (n : Int) + p)
  | 0 => by rw [Nat.add_zero]; show rng n = rng n ++ []; rw [List.append_nil]
  | s + 1 => by
    rw [← Nat.add_assoc, rng_succ, rng_add n s, rng_succ, List.map_append, List.append_assoc]
    rfl
def shf (n : Nat) (t : Tie) : Tie := ⟨n + t.one, n + t.other, t.foe⟩
theorem Pcs.more {n : Nat} {ts us : List Tie} {k : Nat} {pc : Int → Int} (h : Pcs n ts k pc) {s : Nat} (s8 : s ≤ 8) (ok : ∀ t ∈ us, TieOk s t) : Pcs (n + s) (ts ++ us.map (shf n)) (k + 1) (fun p => if p < n then pc p else k) := by
  refine ⟨fun t ht => ?_, fun t ht => ?_, fun i => ?_, fun p p0 p1 => ?_⟩
  · rcases List.mem_append.mp ht with z | z
    · have o := h.ok t z
      exact ⟨o.1, by have := o.2.1; omega, o.2.2.1, by have := o.2.2.2.1; omega, o.2.2.2.2⟩
    · obtain ⟨u, hu, rfl⟩ := List.mem_map.mp z
      have o := ok u hu
      obtain ⟨o1, o2, o3, o4, o5⟩ := o
      refine ⟨?_, ?_, ?_, ?_, ?_⟩
      · show (0 : Int) ≤ n + u.one; omega
      · show (n : Int) + u.one < ((n + s : Nat) : Int); omega
      · show (0 : Int) ≤ n + u.other; omega
      · show (n : Int) + u.other < ((n + s : Nat) : Int); omega
      · show (n : Int) + u.one ≠ n + u.other; omega
  · skip
    rcases List.mem_append.mp ht with z | z
    · have o := h.ok t z
      rw [if_pos o.2.1, if_pos o.2.2.2.1]
      exact h.same t z
    · obtain ⟨u, hu, rfl⟩ := List.mem_map.mp z
      obtain ⟨o1, o2, o3, o4, o5⟩ := ok u hu
      rw [if_neg (show ¬ (shf n u).one < (n : Int) from (by show ¬ (n : Int) + u.one < n; omega)), if_neg (show ¬ (shf n u).other < (n : Int) from (by show ¬ (n : Int) + u.other < n; omega))]
  · rw [rng_add, List.filter_append, List.length_append]
    have e1 : ((rng n).filter fun p => decide ((if p < (n : Int) then pc p else (k : Int)) = i)) = (rng n).filter fun p => decide (pc p = i) := by
      refine List.filter_congr fun p hp => ?_
      rw [if_pos (mem_rng.mp hp).2]
    have e2 : (((rng s).map fun p => (n : Int) + p).filter fun p => decide ((if p < (n : Int) then pc p else (k : Int)) = i)) = if (k : Int) = i then (rng s).map fun p => (n : Int) + p else [] := by
      by_cases hk : (k : Int) = i
      · rw [if_pos hk]
        refine List.filter_eq_self.mpr fun p hp => ?_
        obtain ⟨q, hq, rfl⟩ := List.mem_map.mp hp
        have := mem_rng.mp hq
        rw [if_neg (by omega)]
        exact decide_eq_true hk
      · rw [if_neg hk]
        refine List.filter_eq_nil_iff.mpr fun p hp => ?_
        obtain ⟨q, hq, rfl⟩ := List.mem_map.mp hp
        have := mem_rng.mp hq
        rw [if_neg (by omega), decide_eq_false hk]
        exact Bool.false_ne_true
    rw [e1, e2]
    by_cases hk : (k : Int) = i
    · rw [if_pos hk, List.length_map, rng_length]
      have : ((rng n).filter fun p => decide (pc p = i)) = [] := List.filter_eq_nil_iff.mpr fun p hp => by
        have hp := mem_rng.mp hp
        have := h.lt p hp.1 hp.2
        rw [decide_eq_false (by omega)]
        exact Bool.false_ne_true
      rw [this]
      show 0 + s ≤ 8
      omega
    · rw [if_neg hk]
      exact h.few i
  · skip
    by_cases z : p < (n : Int)
    · rw [if_pos z]
      have := h.lt p p0 z
      omega
    · rw [if_neg z]
      omega
theorem os_nodup {os : List Int} {n : Nat} (h : os.Perm (rng n)) : os.Nodup := h.nodup_iff.mpr ((rng_rising n).imp fun {a b} h => by omega)
theorem os_len {os : List Int} {n : Nat} (h : os.Perm (rng n)) : os.length = n := by rw [h.length_eq, rng_length]
theorem os_at {os : List Int} {n : Nat} (h : os.Perm (rng n)) {p : Int} (h0 : 0 ≤ p) (h1 : p < n) : ∃ hl : p.toNat < os.length, os.getD p.toNat 0 = os[p.toNat] := by
  have l := os_len h
  have hl : p.toNat < os.length := by omega
  exact ⟨hl, by rw [List.getD_eq_getElem?_getD, List.getElem?_eq_getElem hl]; rfl⟩
theorem os_in {os : List Int} {n : Nat} (h : os.Perm (rng n)) {p : Int} (h0 : 0 ≤ p) (h1 : p < n) : 0 ≤ os.getD p.toNat 0 ∧ os.getD p.toNat 0 < n := by
  obtain ⟨hl, e⟩ := os_at h h0 h1
  rw [e]
  exact mem_rng.mp (h.mem_iff.mp (List.getElem_mem hl))
theorem os_idx {os : List Int} {n : Nat} (h : os.Perm (rng n)) {p : Int} (h0 : 0 ≤ p) (h1 : p < n) : ((os.idxOf (os.getD p.toNat 0) : Nat) : Int) = p := by
  obtain ⟨hl, e⟩ := os_at h h0 h1
  rw [e, (os_nodup h).idxOf_getElem p.toNat hl]
  omega
theorem os_map {os : List Int} {n : Nat} (h : os.Perm (rng n)) : os = (rng n).map fun p => os.getD p.toNat 0 := by
  refine List.ext_getElem (by rw [List.length_map, rng_length, os_len h]) fun i h1 h2 => ?_
  rw [List.length_map, rng_length] at h2
  have ei : (rng n)[i]'(by rw [rng_length]; exact h2) = (i : Int) := by
    unfold rng
    rw [List.getElem_map, List.getElem_range]
  rw [List.getElem_map, ei, Int.toNat_natCast, List.getD_eq_getElem?_getD, List.getElem?_eq_getElem h1]
  rfl
theorem Pcs.renamed {n : Nat} {ts : List Tie} {k : Nat} {pc : Int → Int} (h : Pcs n ts k pc) {os : List Int} (ho : os.Perm (rng n)) {us : List Tie} (hu : ∀ t ∈ us, t ∈ ts) : (∀ t ∈ us.map (ren os), TieOk n t) ∧ ∀ P ∈ partsTo (us.map (ren os)) n n, P.length ≤ 8 := by
  constructor
  · intro t ht
    obtain ⟨u, hu', rfl⟩ := List.mem_map.mp ht
    obtain ⟨o1, o2, o3, o4, o5⟩ := h.ok u (hu u hu')
    have a := os_in ho o1 o2
    have b := os_in ho o3 o4
    refine ⟨a.1, a.2, b.1, b.2, fun z => ?_⟩
    have z : os.getD u.one.toNat 0 = os.getD u.other.toNat 0 := z
    have e1 := os_idx ho o1 o2
    have e2 := os_idx ho o3 o4
    rw [z] at e1
    omega
  · intro P hP
    obtain ⟨s, hs, rfl⟩ := part_is hP
    let lab : Int → Int := fun q => pc (os.idxOf q : Nat)
    have adj : ∀ {x y : Int} {b : Bool}, Adj (us.map (ren os)) x y b → lab x = lab y := fun {x y b} ad => by
      obtain ⟨t, ht, _, e⟩ := ad
      obtain ⟨u, hu', rfl⟩ := List.mem_map.mp ht
      obtain ⟨o1, o2, o3, o4, o5⟩ := h.ok u (hu u hu')
      have e1 : lab (ren os u).one = pc u.one := by
        show pc ((os.idxOf (os.getD u.one.toNat 0) : Nat) : Int) = _
        rw [os_idx ho o1 o2]
      have e2 : lab (ren os u).other = pc u.other := by
        show pc ((os.idxOf (os.getD u.other.toNat 0) : Nat) : Int) = _
        rw [os_idx ho o3 o4]
      have e3 := h.same u (hu u hu')
      rcases e with ⟨rfl, rfl⟩ | ⟨rfl, rfl⟩
      · rw [e1, e2, e3]
      · rw [e1, e2, e3]
    have rch : ∀ {y : Int}, Rch (us.map (ren os)) s y → lab y = lab s := fun {y} r => by
      obtain ⟨b, r⟩ := r
      induction r with
      | nil => rfl
      | step r ad ih => rw [← adj ad, ih]
    have sub : partOf (us.map (ren os)) n s = ((rng n).filter fun q => decide (lab q = lab s)).filter fun q => @decide (Rch (us.map (ren os)) s q) (Classical.propDecidable _) := by
      unfold partOf
      rw [List.filter_filter]
      refine List.filter_congr fun q _ => ?_
      by_cases r : Rch (us.map (ren os)) s q
      · rw [@decide_eq_true _ (Classical.propDecidable _) r, decide_eq_true (rch r)]
        rfl
      · rw [@decide_eq_false _ (Classical.propDecidable _) r]
        rfl
    have l1 : (partOf (us.map (ren os)) n s).length ≤ ((rng n).filter fun q => decide (lab q = lab s)).length := by
      rw [sub]
      exact List.length_filter_le _ _
    have l2 : ((rng n).filter fun q => decide (lab q = lab s)).length = (os.filter fun q => decide (lab q = lab s)).length := (ho.filter _).length_eq.symm
    have l3 : (os.filter fun q => decide (lab q = lab s)).length = ((rng n).filter fun p => decide (pc p = lab s)).length := by
      have e : (os.filter fun q => decide (lab q = lab s)) = ((rng n).map fun p => os.getD p.toNat 0).filter fun q => decide (lab q = lab s) := by rw [← os_map ho]
      rw [e, List.filter_map, List.length_map]
      congr 1
      refine List.filter_congr fun p hp => ?_
      have hp := mem_rng.mp hp
      show decide (pc ((os.idxOf (os.getD p.toNat 0) : Nat) : Int) = lab s) = _
      rw [os_idx ho hp.1 hp.2]
    have := h.few (lab s)
    omega
/-! ### webs of many small parts: drawn -/
def rLenK (K : PySem.W.Frag) : List V → Hp → VK → Prop := fun xs H Q => ∃ p ys, xs = [V.ref p] ∧ (SqL K H p ys ∨ SqT K H p ys) ∧ Q (V.int (ys.length : Nat)) H
def spShuf : Sp := fun vs H Q _ => ∃ (d c : Addr) (n : Nat), vs = [.ref d, .int n] ∧ Deck H d c ∧ n ≤ 120 ∧ ∀ (r : Addr) (os : List Int) H', H' r = some (.lst (os.map V.int)) → os.Perm (rng n) → r ≠ d ∧ r ≠ c → H r = none → Deck H' d c → Kp d c H H' → Q (.ref r) H'
def spPieces : Sp := fun vs H Q _ => ∃ (d c : Addr) (k : Nat), vs = [.ref d, .int k, .int 24] ∧ Deck H d c ∧ 1 ≤ k ∧ k ≤ 5 ∧ ∀ (v : V) (n : Nat) (ts : List Tie) H', WebAt H' v n ts → WebOk n ts → (∀ P ∈ partsTo ts n n, P.length ≤ 8) → Deck H' d c → Kp d c H H' → Q v H'
section
variable {P : Program} {w : World} {K : PySem.W.Frag} {mg : Str → Option Value} {base : Heap}
set_option maxHeartbeats 4000000 in
theorem ok_l_shuffled {f : Addr} {fd : FuncData} (F : Fun K "_law_shuffled" "_law_shuffled" s_l_shuffled f fd) (M : Free mg) (D_l_take : Df P w K mg base 1 "_law_take" ["_law_deck_here", "_law_many"] spDraw) : FnOk P w K mg base CX0 2 f fd ["_law_deck_here", "_law_many"] spShuf := by
  obtain ⟨f_l_take, fd_l_take, G_l_take, g_l_take, k_l_take, b_l_take⟩ := D_l_take
  refine F.ok sc_l_shuffled (fun vs H Q E h => ?_) (fun cdv A outer s H vs Q E hr h => ?_)
  · obtain ⟨d, c, n, rfl, _⟩ := h
    rfl
  · obtain ⟨d, c, n, rfl, hD, n120, q⟩ := h
    refine ⟨_, (pss_cons (ps_set (i := 2) sc_l_shuffled.nd rfl (.inr rfl) (pe_listRg rfl (by rfl) M.list (prg_1 (by rfl) M.range (pv 1))))
      (pss_one (ps_ret (pe_lc (own := [("_law_k", 3)]) (g := (gName 3)) (tt := tYes) (te := tBM K "list" rPopAt _ _) rfl sc_l_shuffled.nd (pi_range1 (by rfl) M.range (pa_cons (pv 1) pa_nil)) (blkOk_by (N := N_l_shuffled) (sc := defScope s_l_shuffled) (own := [("_law_k", 3)]) (by decide +kernel)) (fun _ _ _ _ _ => (pg_name (i := 3) sc_l_shuffled.nd rfl (.inl rfl))) (fun _ _ _ _ _ => pts_nil) (fun _ _ _ _ _ => (pe_bm PySem.F.plainAttrs_list PySem.F.slot_list_pop PySem.F.type_list_pop mt_popAt (pv 2) (pa_cons (pe_call G_l_take (hr.mono (by decide)) (by rfl) g_l_take k_l_take b_l_take .nil pass0 (pa_cons (pv 0) (pa_cons (pe_callB (r := rLenK K) call_len_seq (by rfl) M.len PySem.boot_len (pa_cons (pv 2) pa_nil)) pa_nil))) pa_nil))))))), ?_⟩
    refine ⟨.int n, rfl, n, rfl, RgOk.of_le (by decide) (by omega) (by decide) (by omega), fun R nR => ?_⟩
    rw [rgV_ints]
    have rd := hD.ned nR
    have eR := same_new (o := .lst ((rng n).map V.int)) nR
    refine ⟨.int n, rfl, n, rfl, by omega, by omega, fun Z nZ => ?_⟩
    rw [Int.toNat_natCast]
    have zd := (hD.same eR).ned nZ
    have nZ0 : H Z = none := eR.free nZ
    have eZ := same_new (o := .lst []) nZ
    have zR : Z ≠ R := (ne_of_none upd_same nZ).symm
    refine lc_range (lo := 0) (n := n) (fun j H' => ∃ os rest : List Int, H' R = some (.lst (rest.map V.int)) ∧ H' Z = some (.lst (os.map V.int)) ∧ os.length = j ∧ (os ++ rest).Perm (rng n) ∧ Deck H' d c ∧ Kp d c H H') ⟨[], rng n, eZ _ _ upd_same, upd_same, rfl, List.Perm.refl _, (hD.same eR).same eZ, (Same.kp eR).trans (Same.kp eZ)⟩ ?_ ?_
    · rintro j H3 hj ⟨os, rest, hR, hZ, lo, pm, D3, K3⟩
      have ll := pm.length_eq
      rw [List.length_append, rng_length, lo] at ll
      refine ⟨rfl, .ref R, rfl, .inl ⟨rfl, _, SqL.of hR⟩, .ref d, rfl, .ref R, rfl, R, _, rfl, .inl (SqL.of hR), d, c, ((rest.map V.int).length : Int), rfl, D3, by rw [List.length_map]; omega, by rw [List.length_map]; omega, fun v H4 a4 b4 D4 K4 => ?_⟩
      rw [List.length_map] at b4
      have hR4 := K4 _ _ rd.1 rd.2 hR
      have hZ4 := K4 _ _ zd.1 zd.2 hZ
      have ey : rest[v.toNat]? = some _ := List.getElem?_eq_getElem (by omega)
      refine ⟨R, _, v, v.toNat, _, rfl, rfl, hR4, by omega, by omega, seqIndex_of a4 (by rw [List.length_map]; omega), by rw [List.getElem?_map, ey]; rfl, ?_⟩
      · refine ⟨_, by rw [upd_ne zR]; exact hZ4, by rw [List.length_map]; exact small1000 (by omega), os ++ [_], rest.eraseIdx v.toNat, by rw [upd_ne zR.symm, upd_same, eras_map], by rw [upd_same, List.map_append]; rfl, by simp [lo], ?_, (D4.mut rd.1 rd.2).mut zd.1 zd.2, ((K3.trans K4).mut (nR)).mut nZ0⟩
        rw [List.append_assoc]
        exact ((eras_perm ey).append_left os).trans pm
    · rintro H3 ⟨os, rest, hR, hZ, lo, pm, D3, K3⟩
      have ll := pm.length_eq
      rw [List.length_append, rng_length, lo] at ll
      have er : rest = [] := List.length_eq_zero_iff.mp (by omega)
      subst er
      rw [List.append_nil] at pm
      exact q Z os _ hZ pm zd nZ0 D3 K3
end
/-! ### the place of a number in a tuple -/
section
variable {X : Cx}
def rIdxT (K : PySem.W.Frag) : V → List V → Hp → VK → Prop := fun x xs H Q => ∃ (p : Addr) (ns : List Int) (k : Int) (j : Nat), x = .ref p ∧ xs = [.int k] ∧ SqT K H p (ns.map V.int) ∧ ns[j]? = some k ∧ (∀ m, m < j → ns[m]? ≠ some k) ∧ Q (.int (j : Nat)) H
theorem mt_tidx : MtR X "tuple.index" (rIdxT X.K) := by
  intro pins s σ H x xs v us Q I rx rs h
  obtain ⟨p, ns, z, j, rfl, rfl, hq, hy, hno, q⟩ := h
  cases rx
  obtain ⟨u, rfl, t, rfl⟩ := vals1 rs
  obtain ⟨its, r, pl, hz⟩ := I.tuple hq
  obtain ⟨⟨cls, dd, dt, sl⟩, ho, hc, n, hd⟩ := pl
  simp only at hc hd
  subst hc
  subst hd
  have hl : its.toArray.size = ns.length := by rw [List.size_toArray, ← r.length, List.length_map]
  have hj : j < its.toArray.size := by rw [hl]; exact (List.getElem?_eq_some_iff.mp hy).1
  have hi := ints_of_vals r
  have at' : ∀ (m : Nat) (hm : m < its.toArray.size), ∃ y t', ns[m]? = some y ∧ its.toArray[m] = Value.int y t' := fun m hm => by
    have hm' : m < ns.length := by rw [← hl]; exact hm
    obtain ⟨w, hw, t', hw'⟩ := r.get (i := m) (x := .int ns[m]) (by simp [hm'])
    refine ⟨ns[m], t', List.getElem?_eq_getElem hm', ?_⟩
    have e := (List.getElem?_eq_some_iff.mp hw).2
    rw [← hw', ← e]
    simp
  have ek : ∀ (y : Int) (t' : Tok), eqk z (Value.int y t') = decide (y = z) := fun y t' => by
    show (y == z) = _
    by_cases h : y = z
    · rw [decide_eq_true h, h]; simp
    · rw [decide_eq_false h]; simp [h]
  refine call_meets PySem.F.slot_tuple_index ⟨_, ho, rfl⟩ PySem.F.entry_tuple_index (PySem.F.args_tuple_index_2 _ _) (TI.tuple_indexAt p its.toArray n dd sl (.int z t) (eqk z) j hj ?_ ?_)
    ⟨ho, fun y hy => (eqk_gives hi y (by simpa using hy)).at _ _, ⟨.int (j : Nat), H, I.tok _, ⟨_, rfl⟩, q⟩⟩
  · obtain ⟨y, t', h1, h2⟩ := at' j hj
    rw [hy] at h1
    cases h1
    rw [h2, ek]
    exact decide_eq_true rfl
  · intro m hm hmj
    obtain ⟨y, t', h1, h2⟩ := at' m hm
    rw [h2, ek]
    refine decide_eq_false fun e => hno m hmj ?_
    rw [h1, e]
end
/-! ### papers of the mends: what is known to be broken -/
def knownF (ts : List Tie) (ks : List Nb) (es : List Int) : List Int := es.filter fun e => decide ((tieAt ts e).one ∈ ks.map (·.1)) && decide ((tieAt ts e).other ∈ ks.map (·.1))
def kbF (ts : List Tie) (ks : List Nb) (es : List Int) : List Int := (knownF ts ks es).filter fun e => brkF (cOf ks) (tieAt ts e)
def spKnown : Sp := fun vs H Q _ => ∃ (wv : V) (t a : Addr) (n : Int) (ts : List Tie) (ks : List Nb) (es : List Int), vs = [wv, .ref t, .ref a] ∧ WebAt H wv n ts ∧ WebOk n ts ∧ H t = some (.tup (es.map V.int)) ∧ (∀ e ∈ es, 0 ≤ e ∧ e < (ts.length : Int)) ∧ es.length ≤ 120 ∧ H a = some (.dK (kvOf ks)) ∧ (ks.map (·.1)).Nodup ∧
  ∀ r H', Same H H' → H r = none → H' r = some (.lst ((kbF ts ks es).map V.int)) → Q (.ref r) H'
theorem filter_snoc (f : Int → Bool) {es : List Int} {j : Nat} {e : Int} (h : es[j]? = some e) : (es.take (j + 1)).filter f = (es.take j).filter f ++ (if f e = true then [e] else []) := by
  rw [List.take_add_one, h, List.filter_append]
  congr 1
  show [e].filter f = _
  rw [List.filter_cons]
  cases f e <;> rfl
theorem filter_take_len (f : Int → Bool) (es : List Int) (j : Nat) : ((es.take j).filter f).length ≤ es.length := by
  have h1 := List.length_filter_le f (es.take j)
  rw [List.length_take] at h1
  omega
theorem ints_at {es : List Int} {j : Nat} {x : V} (h : (es.map V.int)[j]? = some x) : ∃ e, es[j]? = some e ∧ x = .int e := by
  rw [List.getElem?_map] at h
  cases hP : es[j]? with
  | none => rw [hP] at h; cases h
  | some pl => rw [hP] at h; exact ⟨pl, rfl, (Option.some.inj h).symm⟩
theorem web_at {H : Hp} {us : List V} {ts : List Tie} (hp : Paired (TieV H) us ts) {e : Int} (h0 : 0 ≤ e) (h1 : e < (ts.length : Int)) : ∃ c, atI us e = some (.ref c) ∧ H c = some (.tup [.int (tieAt ts e).one, .int (tieAt ts e).other, .str (kindS (tieAt ts e).foe)]) := by
  have lus : us.length = ts.length := Paired.length hp
  obtain ⟨ut, eut, euo⟩ := getI (xs := us) h0 (by omega)
  obtain ⟨t', et', cc, rfl, hcc⟩ := Paired.at hp euo
  have ett : tieAt ts e = t' := by
    have := tieAt_of et'
    rw [Int.toNat_of_nonneg h0] at this
    exact this
  exact ⟨cc, eut, by rw [ett]; exact hcc⟩
section
variable {P : Program} {w : World} {K : PySem.W.Frag} {mg : Str → Option Value} {base : Heap}
set_option maxHeartbeats 4000000 in
theorem ok_known_broken {f : Addr} {fd : FuncData} (F : Fun K "known_broken" "known_broken" s_known_broken f fd) (D_breaks : Df P w K mg base 1 "breaks" ["sides", "tie"] spBreaksD) : FnOk P w K mg base CX0 2 f fd ["web", "ties", "sides"] spKnown := by
  obtain ⟨f_breaks, fd_breaks, G_breaks, g_breaks, k_breaks, b_breaks⟩ := D_breaks
  refine F.ok sc_known_broken (fun vs H Q E h => ?_) (fun cdv A outer s H vs Q E hr h => ?_)
  · obtain ⟨wv, t, a, n, ts, ks, es, rfl, _⟩ := h
    rfl
  · obtain ⟨wv, t, a, n, ts, ks, es, rfl, ⟨wa, wb, us, rfl, hwa, hwb, hp⟩, ok, ht, er, l120, ha, nd, q⟩ := h
    have hu := room1 hr
    refine ⟨_, (pss_cons (ps_setLc (i := 3) (own := [("tie", 4)]) (g := (gName 4)) (te := tVar 4) rfl sc_known_broken.nd rfl rfl (sw_true rfl rfl rfl (by decide +kernel)) (pi_tup (pv 1)) (blkOk_by (N := N_known_broken) (sc := defScope s_known_broken) (own := [("tie", 4)]) (by decide +kernel)) (fun _ _ _ _ _ => (pg_name (i := 4) sc_known_broken.nd rfl (.inl rfl)))
        (fun _ _ _ _ _ => (pts_one (PW.pt (pw_and (pt_cmp (pc_din hu (pe_ix (r := rIxT K) ix_tup (pe_ix (r := rIxT K) ix_tup (pe_ix (r := rIxT K) ix_tup (pv 0) pe_int (fun _ _ => rfl)) (pv 4) (fun _ _ => rfl)) pe_int (fun _ _ => rfl)) (pv 2))) (pw_and1 (pt_cmp (pc_din hu (pe_ix (r := rIxT K) ix_tup (pe_ix (r := rIxT K) ix_tup (pe_ix (r := rIxT K) ix_tup (pv 0) pe_int (fun _ _ => rfl)) (pv 4) (fun _ _ => rfl)) pe_int (fun _ _ => rfl)) (pv 2)))))))) (fun _ _ _ _ _ => (pv 4)))
      (pss_one (ps_ret (pe_lc (own := [("tie", 4)]) (g := (gName 4)) (te := tVar 4) rfl sc_known_broken.nd (pi_list (pv 3)) (blkOk_by (N := N_known_broken) (sc := defScope s_known_broken) (own := [("tie", 4)]) (by decide +kernel)) (fun _ _ _ _ _ => (pg_name (i := 4) sc_known_broken.nd rfl (.inl rfl))) (fun _ _ _ _ _ => (pts_one (pt_val (pe_call G_breaks (hr.mono (by decide)) (by rfl) g_breaks k_breaks b_breaks .nil pass0 (pa_cons (pv 2) (pa_cons (pe_ix (r := rIxT K) ix_tup (pe_ix (r := rIxT K) ix_tup (pv 0) pe_int (fun _ _ => rfl)) (pv 4) (fun _ _ => rfl)) pa_nil)))))) (fun _ _ _ _ _ => (pv 4)))))), ?_⟩
    have fall : ∀ {z : Int}, z ∉ ks.map (·.1) → valV (kvOf ks) (Sum.inl z) = none := fun h => kvOf_none h
    refine ⟨.ref t, rfl, t, rfl, ⟨_, SqT.of ht⟩, fun Z nZ => ?_⟩
    refine lc_tup (xs := es.map V.int) (fun j H' => H' Z = some (.lst ((knownF ts ks (es.take j)).map V.int)) ∧ Same H H') ⟨upd_same, same_new nZ⟩ (fun j H' _ h => SqT.of (h.2 _ _ ht)) ?_ ?_
    · rintro j x H1 ej ⟨hZ, s1⟩
      obtain ⟨e, ee, rfl⟩ := ints_at ej
      have e01 := er e (List.mem_of_getElem? ee)
      obtain ⟨c, ec, hc⟩ := web_at hp e01.1 e01.2
      have eq1 := filter_snoc (fun e => decide ((tieAt ts e).one ∈ ks.map (·.1)) && decide ((tieAt ts e).other ∈ ks.map (·.1))) ee
      have l1 := filter_take_len (fun e => decide ((tieAt ts e).one ∈ ks.map (·.1)) && decide ((tieAt ts e).other ∈ ks.map (·.1))) es j
      have hwa1 := SqT.of (K := K) (s1 _ _ hwa)
      have hwb1 := SqT.of (K := K) (s1 _ _ hwb)
      have hc1 := SqT.of (K := K) (s1 _ _ hc)
      refine ⟨rfl, .ref wa, rfl, wa, _, 1, .ref wb, rfl, rfl, hwa1, rfl, .int e, rfl, wb, us, e, .ref c, rfl, rfl, hwb1, ec, c, _, 0, _, rfl, rfl, hc1, rfl, .ref a, rfl, a, _, rfl, DGet.k (k := Sum.inl (tieAt ts e).one) (s1 _ _ ha), _, rfl, ?_⟩
      by_cases h1 : (tieAt ts e).one ∈ ks.map (·.1)
      · obtain ⟨⟨z1, b1⟩, m1, z1e⟩ := List.mem_map.mp h1
        have z1e : z1 = (tieAt ts e).one := z1e
        subst z1e
        rw [kvOf_some nd m1]
        refine ⟨.ref wa, rfl, wa, _, 1, .ref wb, rfl, rfl, hwa1, rfl, .int e, rfl, wb, us, e, .ref c, rfl, rfl, hwb1, ec, c, _, 1, _, rfl, rfl, hc1, rfl, .ref a, rfl, a, _, rfl, DGet.k (k := Sum.inl (tieAt ts e).other) (s1 _ _ ha), _, rfl, ?_⟩
        by_cases h2 : (tieAt ts e).other ∈ ks.map (·.1)
        · obtain ⟨⟨z2, b2⟩, m2, z2e⟩ := List.mem_map.mp h2
          have z2e : z2 = (tieAt ts e).other := z2e
          subst z2e
          rw [kvOf_some nd m2]
          refine ⟨.int e, rfl, _, hZ, by rw [List.length_map]; exact small1000 (by unfold knownF; omega), ?_, fun b o e => by rw [upd_ne (ne_of_none e nZ)]; exact s1 b o e⟩
          rw [upd_same]
          unfold knownF
          rw [eq1, if_pos (by rw [decide_eq_true h1, decide_eq_true h2]; rfl), List.map_append]
          rfl
        · rw [kvOf_none h2]
          refine ⟨?_, s1⟩
          unfold knownF at hZ ⊢
          rw [eq1, if_neg (by rw [decide_eq_false h2, Bool.and_false]; exact Bool.false_ne_true), List.append_nil]
          exact hZ
      · rw [kvOf_none h1]
        refine ⟨?_, s1⟩
        unfold knownF at hZ ⊢
        rw [eq1, if_neg (by rw [decide_eq_false h1]; exact Bool.false_ne_true), List.append_nil]
        exact hZ
    · rintro H1 ⟨hZ, s1⟩
      rw [List.length_map, List.take_length] at hZ
      refine ⟨.ref Z, rfl, Z, rfl, ⟨_, SqL.of hZ⟩, fun Y nY => ?_⟩
      have nY0 := s1.free nY
      have lk : (knownF ts ks es).length ≤ 120 := by
        have h1 := List.length_filter_le (fun e => decide ((tieAt ts e).one ∈ ks.map (·.1)) && decide ((tieAt ts e).other ∈ ks.map (·.1))) es
        unfold knownF
        omega
      have inK : ∀ e ∈ knownF ts ks es, e ∈ es ∧ (tieAt ts e).one ∈ ks.map (·.1) ∧ (tieAt ts e).other ∈ ks.map (·.1) := fun e he => by
        have he := List.mem_filter.mp he
        rw [Bool.and_eq_true, decide_eq_true_iff, decide_eq_true_iff] at he
        exact he
      refine lc_list (xs := (knownF ts ks es).map V.int) (fun j H' => H' Y = some (.lst ((((knownF ts ks es).take j).filter fun e => brkF (cOf ks) (tieAt ts e)).map V.int)) ∧ Same H1 H') ⟨upd_same, same_new nY⟩ (fun j H' _ h => SqL.of (h.2 _ _ hZ)) ?_ ?_
      · rintro j x H2 ej ⟨hY, s2⟩
        obtain ⟨e, ee, rfl⟩ := ints_at ej
        obtain ⟨em, i1, i2⟩ := inK e (List.mem_of_getElem? ee)
        have e01 := er e em
        obtain ⟨c, ec, hc⟩ := web_at hp e01.1 e01.2
        have s12 := s1.trans s2
        have l1 := filter_take_len (fun e => brkF (cOf ks) (tieAt ts e)) (knownF ts ks es) j
        refine ⟨rfl, .ref a, rfl, .ref wa, rfl, wa, _, 1, .ref wb, rfl, rfl, SqT.of (s12 _ _ hwa), rfl, .int e, rfl, wb, us, e, .ref c, rfl, rfl, SqT.of (s12 _ _ hwb), ec, a, c, ks, tieAt ts e, _, _, rfl, s12 _ _ ha, nd, cOf_in nd rfl i1, cOf_in nd rfl i2, s12 _ _ hc, _, rfl, ?_⟩
        rw [filter_snoc _ ee]
        show if brkF (cOf ks) (tieAt ts e) = true then _ else _
        cases hb : brkF (cOf ks) (tieAt ts e) with
        | true =>
          rw [if_pos rfl, if_pos rfl]
          refine ⟨.int e, rfl, _, hY, by rw [List.length_map]; exact small1000 (by omega), ?_, fun b o e => by rw [upd_ne (ne_of_none e nY)]; exact s2 b o e⟩
          rw [upd_same, List.map_append]
          rfl
        | false =>
          rw [if_neg Bool.false_ne_true, if_neg Bool.false_ne_true, List.append_nil]
          exact ⟨hY, s2⟩
      · rintro H2 ⟨hY, s2⟩
        rw [List.length_map, List.take_length] at hY
        exact q Y H2 (s1.trans s2) nY0 hY
end
/-! ### papers of the mends: a row of a ring -/
def rowPlaces (f : Int) (t : Tie) : List Int := if f = t.one ∨ f = t.other then [t.one, t.other] else [t.one, f, t.other]
def rowSure (m : Nat) (P : List Int) (f : Int) (ps : List Int) : List Int := (ps.filter fun p => decide (p ≠ f)).map fun p => (m : Int) + (P.idxOf p : Nat) - 1
theorem rowSure_snoc (m : Nat) (P : List Int) (f : Int) (ps : List Int) (p : Int) : rowSure m P f (ps ++ [p]) = rowSure m P f ps ++ (if p ≠ f then [(m : Int) + (P.idxOf p : Nat) - 1] else []) := by
  unfold rowSure
  rw [List.filter_append, List.map_append]
  congr 1
  by_cases h : p = f
  · rw [if_neg (fun z => z h), List.filter_cons_of_neg (by simp [h])]
    rfl
  · rw [if_pos h, List.filter_cons_of_pos (by simp [h])]
    rfl
def RingR (H : Hp) (ts : List Tie) (g : Int → Int) (P : List Int) (v : V) (e : Int) : Prop := ∃ a b c d, v = .ref a ∧ H a = some (.tup [.ref b, .int (2 * g e)]) ∧ H b = some (.tup [.ref c, .ref d]) ∧ H c = some (.tup ((rowPlaces (P.headD 0) (tieAt ts e)).map V.int)) ∧
  H d = some (.tup ((rowSure ts.length P (P.headD 0) [(tieAt ts e).one, (tieAt ts e).other] ++ [e]).map V.int))
theorem RingR.tk {H H' : Hp} (k : Tk H H') {ts : List Tie} {g : Int → Int} {P : List Int} {v : V} {e : Int} (h : RingR H ts g P v e) : RingR H' ts g P v e := by
  obtain ⟨a, b, c, d, ev, h1, h2, h3, h4⟩ := h
  exact ⟨a, b, c, d, ev, k _ _ h1, k _ _ h2, k _ _ h3, k _ _ h4⟩
def spRingRow41 : Sp := fun vs H Q _ => ∃ (wv gv : V) (p : Addr) (n : Int) (ts : List Tie) (g : Int → Int) (P : List Int) (e : Int), vs = [wv, gv, .ref p, .int e] ∧ WebAt H wv n ts ∧ WebOk n ts ∧ Wts H gv [e] g ∧ NoD H p (P.map V.int) ∧ P ≠ [] ∧ P.length ≤ 40 ∧ (0 ≤ e ∧ e < (ts.length : Int)) ∧ (tieAt ts e).one ∈ P ∧ (tieAt ts e).other ∈ P ∧
  ∀ v H', Same H H' → RingR H' ts g P v e → Q v H'
theorem idx_at {P : List Int} {p : Int} (h : p ∈ P) : P[P.idxOf p]? = some p ∧ ∀ m, m < P.idxOf p → P[m]? ≠ some p := by
  have hl := List.idxOf_lt_length_iff.mpr h
  refine ⟨?_, fun m hm e => ?_⟩
  · rw [List.getElem?_eq_getElem hl, List.getElem_idxOf hl]
  · obtain ⟨hm2, e⟩ := List.getElem?_eq_some_iff.mp e
    have h0 := List.not_of_lt_findIdx (p := fun x => x == p) (xs := P) (i := m) hm
    rw [e] at h0
    simp at h0
section
variable {P : Program} {w : World} {K : PySem.W.Frag} {mg : Str → Option Value} {base : Heap}
set_option maxHeartbeats 4000000 in
theorem ok_ring_row {f : Addr} {fd : FuncData} (F : Fun K "ring_row" "ring_row" s_ring_row f fd) (M : Free mg) (D_weight_of : Df P w K mg base 1 "weight_of" ["weights", "tie"] spWeightOf) : FnOk P w K mg base CX0 2 f fd ["web", "weights", "part", "tie"] spRingRow41 := by
  obtain ⟨f_weight_of, fd_weight_of, G_weight_of, g_weight_of, k_weight_of, b_weight_of⟩ := D_weight_of
  refine F.ok sc_ring_row (fun vs H Q E h => ?_) (fun cdv A outer s H vs Q E hr h => ?_)
  · obtain ⟨wv, gv, p, n, ts, g, P, e, rfl, _⟩ := h
    rfl
  · obtain ⟨wv, gv, p, n, ts, g, P, e, rfl, ⟨wa, wb, us, rfl, hwa, hwb, hp⟩, ok, hw, hpp, pne, p40, er, i1, i2, q⟩ := h
    refine ⟨_, (pss_cons (ps_asg (pe_ix ix_tup (pe_ix ix_tup (pv 0) pe_int (fun _ _ => rfl)) (pv 3) (fun _ _ => rfl)) (pg_tup rfl (pgs_cons (pg_name (i := 4) sc_ring_row.nd rfl (.inl rfl)) (pgs_cons (pg_name (i := 5) sc_ring_row.nd rfl (.inl rfl)) (pgs_cons (pg_name (i := 6) sc_ring_row.nd rfl (.inl rfl)) pgs_nil)))))
      (pss_cons (ps_set (i := 7) sc_ring_row.nd rfl (.inr rfl) (pe_ix ix_tup (pv 2) pe_int (fun _ _ => rfl)))
      (Evl.pss_cut (ps_set (i := 8) sc_ring_row.nd rfl (.inl rfl) (pe_ifExp (pt_cmpR op_in_seq (pv 7) (pe_tup (pa_cons (pv 4) (pa_cons (pv 5) pa_nil))) rfl) (pe_tup (pa_cons (pv 4) (pa_cons (pv 5) pa_nil))) (pe_tup (pa_cons (pv 4) (pa_cons (pv 7) (pa_cons (pv 5) pa_nil))))))
      (pss_cons (ps_setLc (i := 9) (own := [("place", 10)]) (g := (gName 10)) rfl sc_ring_row.nd rfl rfl (sw_true rfl rfl rfl (by decide +kernel)) (pi_tup (pe_tup (pa_cons (pv 4) (pa_cons (pv 5) pa_nil)))) (blkOk_by (N := N_ring_row) (sc := defScope s_ring_row) (own := [("place", 10)]) (by decide +kernel)) (fun _ _ _ _ _ => (pg_name (i := 10) sc_ring_row.nd rfl (.inl rfl))) (fun _ _ _ _ _ => (pts_one (pt_cmpR op_ne (pv 10) (pv 7) (nomark _)))) (fun _ _ _ _ _ => (pe_op op_sub (pe_op op_add (pe_callB (r := rLen38 K) call_len_seq (by rfl) M.len PySem.boot_len (pa_cons (pe_ix (r := rIxT K) ix_tup (pv 0) pe_int (fun _ _ => rfl)) pa_nil)) (pe_bmT (r := rIdxT K) PySem.F.slot_tuple_index PySem.F.type_tuple_index mt_tidx (pv 2) (pa_cons (pv 10) pa_nil))) pe_int)))
      (pss_one (ps_ret (pe_tup (pa_cons (pe_tup (pa_cons (pv 8) (pa_cons (pe_tup (StX.pa_star (pv 9) (pa_cons (pv 3) pa_nil))) pa_nil))) (pa_cons (pe_op op_mul pe_int (pe_call G_weight_of (hr.mono (by decide)) (by rfl) g_weight_of k_weight_of b_weight_of .nil pass0 (pa_cons (pv 1) (pa_cons (pv 3) pa_nil)))) pa_nil))))))))), ?_⟩
    have lus : us.length = ts.length := Paired.length hp
    have few := ok.few
    obtain ⟨c, ec, hc⟩ := web_at hp er.1 er.2
    obtain ⟨p0, P', eP⟩ := List.exists_cons_of_ne_nil pne
    have e0 : P.headD 0 = p0 := by rw [eP]; rfl
    refine ⟨.ref wa, rfl, wa, _, 1, .ref wb, rfl, rfl, SqT.of hwa, rfl, .int e, rfl, wb, us, e, .ref c, rfl, rfl, SqT.of hwb, ec, c, _, rfl, SqT.of hc, rfl, _, _, rfl, _, _, rfl, _, _, rfl, rfl, ?_⟩
    refine ⟨.ref p, rfl, p, _, 0, .int p0, rfl, rfl, hpp.sq, by rw [eP, List.map_cons]; exact atI_nat (j := 0) rfl, ?_⟩
    unfold RingR at q
    rw [e0] at q
    generalize tieAt ts e = t at hc i1 i2 q
    refine ⟨fun σ' H' => ∃ pl : Addr, σ' = [some (.ref wa), some gv, some (.ref p), some (.int e), some (.int t.one), some (.int t.other), some (.str (kindS t.foe)), some (.int p0), some (.ref pl), none, none] ∧ Same H H' ∧ H' pl = some (.tup ((rowPlaces p0 t).map V.int)), ?_, ?_⟩
    · refine ⟨.int p0, rfl, .int t.one, rfl, .int t.other, rfl, by show 2 ≤ sizeLine; decide, fun x nx => ⟨x, _, rfl, .inr (SqT.of upd_same), rfl, flat_ints [t.one, t.other], _, rfl, ?_⟩⟩
      have sx := same_new (o := .tup [V.int t.one, .int t.other]) nx
      rw [show inV (V.int p0) [V.int t.one, .int t.other] = [t.one, t.other].contains p0 from in_ints p0 [t.one, t.other]]
      by_cases h : p0 = t.one ∨ p0 = t.other
      · rw [show [t.one, t.other].contains p0 = true from List.contains_iff_mem.mpr (by simpa using h)]
        refine ⟨.int t.one, rfl, .int t.other, rfl, by show 2 ≤ sizeLine; decide, fun pl npl => ⟨pl, rfl, sx.trans (same_new npl), ?_⟩⟩
        rw [upd_same]
        unfold rowPlaces
        rw [if_pos h]
        rfl
      · rw [show [t.one, t.other].contains p0 = false from by
          rw [Bool.eq_false_iff]
          intro z
          exact h (by simpa using List.contains_iff_mem.mp z)]
        refine ⟨.int t.one, rfl, .int p0, rfl, .int t.other, rfl, by show 3 ≤ sizeLine; decide, fun pl npl => ⟨pl, rfl, sx.trans (same_new npl), ?_⟩⟩
        rw [upd_same]
        unfold rowPlaces
        rw [if_neg h]
        rfl
    rintro σ' H1 ⟨pl, rfl, s1, hpl⟩
    refine ⟨.int t.one, rfl, .int t.other, rfl, by show 2 ≤ sizeLine; decide, fun x nx => ?_⟩
    have s2 := s1.trans (same_new (o := .tup [V.int t.one, .int t.other]) nx)
    have hpl2 := same_new (o := .tup [V.int t.one, .int t.other]) nx _ _ hpl
    have hx := upd_same (H := H1) (a := x) (o := .tup [V.int t.one, .int t.other])
    generalize upd H1 x (.tup [V.int t.one, .int t.other]) = H2 at s2 hpl2 hx
    refine ⟨x, rfl, ⟨_, SqT.of hx⟩, fun Z nZ => ?_⟩
    refine lc_tup (xs := [t.one, t.other].map V.int) (fun j H' => H' Z = some (.lst ((rowSure ts.length P p0 ([t.one, t.other].take j)).map V.int)) ∧ (rowSure ts.length P p0 ([t.one, t.other].take j)).length ≤ j ∧ Same H2 H') ⟨upd_same, Nat.le_refl _, same_new nZ⟩ (fun j H' _ h => SqT.of (h.2.2 _ _ hx)) ?_ ?_
    · rintro j y H3 ej ⟨hZ, lz, s3⟩
      obtain ⟨z, ez, rfl⟩ := ints_at ej
      have s03 := s2.trans s3
      have zP : z ∈ P := by
        have := List.mem_of_getElem? ez
        simp only [List.mem_cons, List.not_mem_nil, or_false] at this
        rcases this with h | h
        · rw [h]; exact i1
        · rw [h]; exact i2
      have et : [t.one, t.other].take (j + 1) = [t.one, t.other].take j ++ [z] := by rw [List.take_add_one, ez]; rfl
      have jl := (List.getElem?_eq_some_iff.mp ez).1
      refine ⟨rfl, .int z, rfl, .int p0, rfl, rfl, _, rfl, ?_⟩
      rw [dec_intF, et, rowSure_snoc]
      by_cases h : z = p0
      · rw [decide_eq_true h, if_neg (fun y => y h), List.append_nil]
        exact ⟨hZ, by omega, s3⟩
      · rw [decide_eq_false h, if_pos h]
        obtain ⟨g1, g2⟩ := idx_at zP
        have hp3 := hpp.same s03
        refine ⟨.ref wa, rfl, wa, _, 1, .ref wb, rfl, rfl, SqT.of (s03 _ _ hwa), rfl, wb, us, rfl, .inr (SqT.of (s03 _ _ hwb)), .ref p, rfl, ⟨p, _, rfl, hp3⟩, .int z, rfl, p, P, z, P.idxOf z, rfl, rfl, hp3.sq, g1, g2, _, _, rfl, rfl, _, 1, rfl, rfl, _, hZ, by rw [List.length_map]; exact small1000 (by have : [t.one, t.other].length = 2 := rfl; omega), ?_, by rw [List.length_append]; show _ + 1 ≤ j + 1; omega, fun b o e => by rw [upd_ne (ne_of_none e nZ)]; exact s3 b o e⟩
        rw [upd_same, List.map_append, lus]
        rfl
    · rintro H3 ⟨hZ, lz, s3⟩
      have hZ : H3 Z = some (.lst ((rowSure ts.length P p0 [t.one, t.other]).map V.int)) := hZ
      have lz : (rowSure ts.length P p0 [t.one, t.other]).length ≤ 2 := lz
      have s03 := s2.trans s3
      refine ⟨.ref pl, rfl, .ref Z, rfl, Z, _, rfl, .inr (SqL.of hZ), .int e, rfl, ?_, fun d nd => ?_⟩
      · rw [List.length_append, List.length_map]
        have e : sizeLine = 16777216 := by decide
        show _ + 1 ≤ sizeLine
        omega
      have s4 := s03.trans (same_new (o := .tup ((rowSure ts.length P p0 [t.one, t.other]).map V.int ++ [.int e])) nd)
      have hpl4 := same_new (o := .tup ((rowSure ts.length P p0 [t.one, t.other]).map V.int ++ [.int e])) nd _ _ (s3 _ _ hpl2)
      have hd4 := upd_same (H := H3) (a := d) (o := .tup ((rowSure ts.length P p0 [t.one, t.other]).map V.int ++ [.int e]))
      generalize upd H3 d (.tup ((rowSure ts.length P p0 [t.one, t.other]).map V.int ++ [.int e])) = H4 at s4 hpl4 hd4
      refine ⟨by show 2 ≤ sizeLine; decide, fun b nb => ?_⟩
      have s5 := s4.trans (same_new (o := .tup [.ref pl, .ref d]) nb)
      have hpl5 := same_new (o := .tup [.ref pl, .ref d]) nb _ _ hpl4
      have hd5 := same_new (o := .tup [.ref pl, .ref d]) nb _ _ hd4
      have hb5 := upd_same (H := H4) (a := b) (o := .tup [.ref pl, .ref d])
      generalize upd H4 b (.tup [.ref pl, .ref d]) = H5 at s5 hpl5 hd5 hb5
      have fin : ∀ y : Int, y = g e → ∀ a, H5 a = none → Q (.ref a) (upd H5 a (.tup [.ref b, .int (2 * y)])) := fun y ey a na => by
        subst ey
        have sa := same_new (o := .tup [.ref b, .int (2 * g e)]) na
        refine q (.ref a) _ (s5.trans sa) ⟨a, b, pl, d, rfl, upd_same, sa _ _ hb5, sa _ _ hpl5, ?_⟩
        rw [List.map_append]
        exact sa _ _ hd5
      rcases hw with ⟨rfl, h1⟩ | ⟨wt, ws, rfl, h1, h2⟩
      · refine ⟨.non, rfl, .int e, rfl, .inl ⟨e, rfl, ?_⟩⟩
        exact ⟨2, 1, rfl, rfl, .inl ⟨by decide, by decide⟩, by show 2 ≤ sizeLine; decide, fin 1 (h1 e (List.mem_singleton.mpr rfl)).symm⟩
      · obtain ⟨⟨b0, b1⟩, ew⟩ := h2 e (List.mem_singleton.mpr rfl)
        refine ⟨.ref wt, rfl, .int e, rfl, .inr ⟨wt, _, e, _, rfl, s5 _ _ h1, gW_at b0 b1, ?_⟩⟩
        exact ⟨2, gW ws e, rfl, rfl, .inl ⟨by decide, by decide⟩, by show 2 ≤ sizeLine; decide, fin _ ew.symm⟩
end
/-! ### papers of the mends: the paper of a part -/
/-- the paper of a part where the sides ks are known: rings, where what is known to be broken weighs as much as the least; else a case of the next place -/
def PPV (H : Hp) (ts : List Tie) (g : Int → Int) (P es : List Int) (least : Int) : Nat → V → List Nb → Prop
  | d, v, ks => (least ≤ sumW g (kbF ts ks es) ∧ ∃ a r rows, v = .ref a ∧ H a = some (.tup [.str "rings", .ref r]) ∧ H r = some (.tup rows) ∧ Paired (RingR H ts g P) rows (kbF ts ks es)) ∨
    (¬ least ≤ sumW g (kbF ts ks es) ∧ match d with
      | 0 => False
      | d + 1 => ∃ a t1 t2 pl, v = .ref a ∧ P[ks.length]? = some pl ∧ H a = some (.tup [.str "case", .int (P.headD 0), .int pl, t1, t2]) ∧ PPV H ts g P es least d t1 (ks ++ [(pl, false)]) ∧ PPV H ts g P es least d t2 (ks ++ [(pl, true)]))
theorem PPV.tk {H H' : Hp} (k : Tk H H') {ts : List Tie} {g : Int → Int} {P es : List Int} {least : Int} : ∀ {d : Nat} {v : V} {ks : List Nb}, PPV H ts g P es least d v ks → PPV H' ts g P es least d v ks := by
  intro d
  induction d with
  | zero =>
    intro v ks h
    unfold PPV at h ⊢
    rcases h with ⟨h1, a, r, rows, e, h2, h3, h4⟩ | ⟨_, h⟩
    · exact .inl ⟨h1, a, r, rows, e, k _ _ h2, k _ _ h3, Paired.mono (fun _ _ x => x.tk k) h4⟩
    · exact h.elim
  | succ d ih =>
    intro v ks h
    unfold PPV at h ⊢
    rcases h with ⟨h1, a, r, rows, e, h2, h3, h4⟩ | ⟨h0, a, t1, t2, pl, e, h1, h2, h3, h4⟩
    · exact .inl ⟨h1, a, r, rows, e, k _ _ h2, k _ _ h3, Paired.mono (fun _ _ x => x.tk k) h4⟩
    · exact .inr ⟨h0, a, t1, t2, pl, e, h1, k _ _ h2, ih h3, ih h4⟩
/-- where all places are known, what is broken is what a colouring breaks -/
theorem kb_all {ts : List Tie} {ks : List Nb} {es P : List Int} (e : ks.map (·.1) = P) (cl : ∀ e ∈ es, (tieAt ts e).one ∈ P ∧ (tieAt ts e).other ∈ P) : kbF ts ks es = badF ts (cOf ks) es := by
  unfold kbF
  have : knownF ts ks es = es := by
    unfold knownF
    refine List.filter_eq_self.mpr fun x hx => ?_
    rw [e, decide_eq_true (cl x hx).1, decide_eq_true (cl x hx).2]
    rfl
  rw [this]
  rfl
def spPart (Ps : List Addr) (n0 : Nat) : Sp := fun vs H Q _ => ∃ (wv gv : V) (p t row a : Addr) (n : Nat) (ts : List Tie) (g : Int → Int) (P : List Int) (x : WL) (ks : List Nb), vs = [wv, gv, .ref row, .int x.1, .ref a] ∧ WebAt H wv n ts ∧ WebOk n ts ∧ P ∈ partsTo ts n n ∧ P.length ≤ 8 ∧ Wts H gv (tiesIn ts P) g ∧ NoD H p (P.map V.int) ∧ H t = some (.tup ((tiesIn ts P).map V.int)) ∧ H row = some (.tup [.ref p, .ref t]) ∧
  LexMin ts g (tiesIn ts P) x ∧ H a = some (.dK (kvOf ks)) ∧ ks.map (·.1) = P.take ks.length ∧ ks.length + n0 = P.length ∧ Tabs Ps H ∧ ∀ v H', Kt Ps H H' → PPV H' ts g P (tiesIn ts P) x.1 n0 v ks → Q v H'
/-- what the next call promises -/
def spPartR (Ps : List Addr) : Nat → Sp
  | 0 => fun _ _ _ _ => False
  | d + 1 => spPart Ps d
theorem star_same {H : Hp} {q r : Addr} {A B C : List (Key × V)} (nq : H q = none) (nr : (upd (upd H q (.dK [])) q (.dK A)) r = none) : Same H (upd (upd (upd (upd (upd H q (.dK [])) q (.dK A)) r (.dK [])) r (.dK B)) q (.dK C)) := fun b o e => by
  have qr : q ≠ r := fun z => by rw [z, upd_same] at nr; cases nr
  have nr0 : H r = none := by
    rw [upd_ne (Ne.symm qr), upd_ne (Ne.symm qr)] at nr
    exact nr
  rw [upd_ne (ne_of_none e nq), upd_ne (ne_of_none e nr0), upd_ne (ne_of_none e nr0), upd_ne (ne_of_none e nq), upd_ne (ne_of_none e nq)]
  exact e
section
variable {P : Program} {w : World} {K : PySem.W.Frag} {mg : Str → Option Value} {base : Heap}
set_option maxHeartbeats 8000000 in
theorem part_paper_step {f : Addr} {fd : FuncData} {Ps : List Addr} (d : Nat) (F : Fun K "part_paper" "part_paper" s_part_paper f fd) (M : Free mg) (g_part_paper : mg "part_paper" = some (.ref f)) (b_part_paper : L2.Binds K fd ["web", "weights", "row", "least", "sides"] []) (G_part_paper : FnOk P w K mg base CX0 (4 + d) f fd ["web", "weights", "row", "least", "sides"] (spPartR Ps d)) (D_known_broken : Df P w K mg base 2 "known_broken" ["web", "ties", "sides"] spKnown) (D_mend_weight : Df P w K mg base 3 "mend_weight" ["weights", "ties"] (spMend Ps)) (D_ring_row : Df P w K mg base 2 "ring_row" ["web", "weights", "part", "tie"] spRingRow41) : FnOk P w K mg base CX0 (5 + d) f fd ["web", "weights", "row", "least", "sides"] (spPart Ps d) := by
  obtain ⟨f_known_broken, fd_known_broken, G_known_broken, g_known_broken, k_known_broken, b_known_broken⟩ := D_known_broken
  obtain ⟨f_mend_weight, fd_mend_weight, G_mend_weight, g_mend_weight, k_mend_weight, b_mend_weight⟩ := D_mend_weight
  obtain ⟨f_ring_row, fd_ring_row, G_ring_row, g_ring_row, k_ring_row, b_ring_row⟩ := D_ring_row
  have k_part_paper := F.kp
  rw [show 5 + d = (4 + d) + 1 from by omega]
  refine F.ok sc_part_paper (fun vs H Q E h => ?_) (fun cdv A outer s H vs Q E hr h => ?_)
  · obtain ⟨wv, gv, p, t, row, a, n, ts, g, P, x, ks, rfl, _⟩ := h
    rfl
  · obtain ⟨wv, gv, p, t, row, a, n, ts, g, P, x, ks, rfl, hW, ok, hPm, l8, hw, hp, ht, hrow, lex, ha, ek, el, hT, q⟩ := h
    have hu := room1 hr
    refine ⟨_, (pss_cons (ps_asg (pv 2) (pg_tup rfl (pgs_cons (pg_name (i := 5) sc_part_paper.nd rfl (.inr rfl)) (pgs_cons (pg_name (i := 6) sc_part_paper.nd rfl (.inl rfl)) pgs_nil))))
      (pss_cons (ps_set (i := 7) sc_part_paper.nd rfl (.inl rfl) (pe_call G_known_broken (hr.mono (by omega)) (by rfl) g_known_broken k_known_broken b_known_broken .nil pass0 (pa_cons (pv 0) (pa_cons (pv 6) (pa_cons (pv 4) pa_nil)))))
      (pss_cons (ps_if (pt_cmpR op_ge (pe_call G_mend_weight (hr.mono (by omega)) (by rfl) g_mend_weight k_mend_weight b_mend_weight .nil pass0 (pa_cons (pv 1) (pa_cons (pv 7) pa_nil))) (pv 3) (nomark _))
        (pss_one (ps_ret (pe_tup (pa_cons pe_str (pa_cons (pe_callTy call_tuple_of (by rfl) M.tuple (by decide +kernel) (pa_cons (pe_lc (own := [("tie", 8)]) (g := gName 8) (tt := tYes) rfl sc_part_paper.nd (pi_list (pv 7)) (blkOk_by (N := N_part_paper) (sc := defScope s_part_paper) (own := [("tie", 8)]) (by decide +kernel)) (fun _ _ _ _ _ => (pg_name (i := 8) sc_part_paper.nd rfl (.inl rfl))) (fun _ _ _ _ _ => pts_nil) (fun _ _ _ _ _ => (pe_call G_ring_row (hr.mono (by omega)) (by rfl) g_ring_row k_ring_row b_ring_row .nil pass0 (pa_cons (pv 0) (pa_cons (pv 1) (pa_cons (pv 5) (pa_cons (pv 8) pa_nil))))))) pa_nil)) pa_nil)))))
        pss_nil)
      (pss_cons (ps_set (i := 9) sc_part_paper.nd rfl (.inl rfl) (pe_ix ix_tup (pv 5) (pe_callB call_lenD (by rfl) M.len PySem.boot_len (pa_cons (pv 4) pa_nil)) (fun _ _ => rfl)))
      (pss_cons (ps_set (i := 10) sc_part_paper.nd rfl (.inl rfl) (pe_call G_part_paper (hr.mono (by omega)) (by rfl) g_part_paper k_part_paper b_part_paper .nil pass0 (pa_cons (pv 0) (pa_cons (pv 1) (pa_cons (pv 2) (pa_cons (pv 3) (pa_cons (pe_dstar (pv 4) (pv 9) pe_int) pa_nil)))))))
      (pss_cons (ps_set (i := 11) sc_part_paper.nd rfl (.inl rfl) (pe_call G_part_paper (hr.mono (by omega)) (by rfl) g_part_paper k_part_paper b_part_paper .nil pass0 (pa_cons (pv 0) (pa_cons (pv 1) (pa_cons (pv 2) (pa_cons (pv 3) (pa_cons (pe_dstar (pv 4) (pv 9) pe_int) pa_nil)))))))
      (pss_one (ps_ret (pe_tup (pa_cons pe_str (pa_cons (pe_ix ix_tup (pv 5) pe_int (fun _ _ => rfl)) (pa_cons (pv 9) (pa_cons (pv 10) (pa_cons (pv 11) pa_nil)))))))))))))), ?_⟩
    have pt := parts_of_web ok.ok
    have cl := tiesIn_cl pt hPm
    have nd : P.Nodup := (part_pw hPm).imp fun {a b} h => by omega
    have ndk : (ks.map (·.1)).Nodup := by rw [ek]; exact nd.sublist (List.take_sublist _ _)
    have few := ok.few
    have lt := tiesIn_len ts P
    obtain ⟨p0, P', eP⟩ := List.exists_cons_of_ne_nil (part_ne hPm)
    have e0 : P.headD 0 = p0 := by rw [eP]; rfl
    refine ⟨.ref row, rfl, row, _, rfl, SqT.of hrow, rfl, _, _, rfl, _, _, rfl, rfl, ?_⟩
    refine ⟨wv, rfl, .ref t, rfl, .ref a, rfl, wv, t, a, n, ts, ks, tiesIn ts P, rfl, hW, ok, ht, fun e he => (tiesIn_mem.mp he).1, by omega, ha, ndk, fun B H1 s1 nB hB => ?_⟩
    have k1 := Kt.same hT s1
    have T1 := k1.tab
    have kbs : ∀ e ∈ kbF ts ks (tiesIn ts P), e ∈ tiesIn ts P := fun e he => (List.mem_filter.mp (List.mem_filter.mp he).1).1
    refine ⟨gv, rfl, .ref B, rfl, gv, B, kbF ts ks (tiesIn ts P), g, rfl, .inr hB, (hw.tk (Same.tk s1)).sub kbs, T1, fun H2 k12 => ?_⟩
    have k2 := k1.trans k12
    have T2 := k2.tab
    have tk2 := k2.tk hT
    refine ⟨.int x.1, rfl, _, _, rfl, rfl, _, rfl, ?_⟩
    by_cases hle : x.1 ≤ sumW g (kbF ts ks (tiesIn ts P))
    · rw [decide_eq_true hle]
      have hB2 := k12.lst T1 hB
      refine ⟨.ref B, rfl, B, rfl, ⟨_, SqL.of hB2⟩, fun Z nZ => ?_⟩
      have l120 : (kbF ts ks (tiesIn ts P)).length ≤ 120 := by
        unfold kbF knownF
        have h1 := List.length_filter_le (fun e => brkF (cOf ks) (tieAt ts e)) ((tiesIn ts P).filter fun e => decide ((tieAt ts e).one ∈ ks.map (·.1)) && decide ((tieAt ts e).other ∈ ks.map (·.1)))
        have h2 := List.length_filter_le (fun e => decide ((tieAt ts e).one ∈ ks.map (·.1)) && decide ((tieAt ts e).other ∈ ks.map (·.1))) (tiesIn ts P)
        omega
      generalize hkb : kbF ts ks (tiesIn ts P) = kb at hB2 l120 kbs hle
      refine lc_list (xs := kb.map V.int) (fun j H' => ∃ vs, H' Z = some (.lst vs) ∧ Paired (RingR H' ts g P) vs (kb.take j) ∧ Same H2 H') ⟨[], upd_same, .nil, same_new nZ⟩ (fun j H' _ h => by
        obtain ⟨_, _, _, h⟩ := h
        exact SqL.of (h _ _ hB2)) ?_ ?_
      · rintro j y H3 ej ⟨vs, hZ, hv, s3⟩
        obtain ⟨e, ee, rfl⟩ := ints_at ej
        have em := kbs e (List.mem_of_getElem? ee)
        have jl := (List.getElem?_eq_some_iff.mp ee).1
        have tk3 := tk2.trans (Same.tk s3)
        have lv := Paired.length hv
        rw [List.length_take] at lv
        refine ⟨rfl, wv, rfl, gv, rfl, .ref p, rfl, .int e, rfl, wv, gv, p, n, ts, g, P, e, rfl, hW.tk tk3, ok, (hw.tk tk3).sub (fun z hz => by rw [List.mem_singleton.mp hz]; exact em), hp.tk tk3, part_ne hPm, by omega, (tiesIn_mem.mp em).1, (cl e em).1, (cl e em).2, fun v H4 s4 hv4 => ?_⟩
        have hZ4 := s4 _ _ hZ
        have tkL := tk_lst (ys := vs ++ [v]) hZ4
        refine ⟨vs, hZ4, small1000 (by omega), vs ++ [v], upd_same, ?_, fun b o e => by rw [upd_ne (ne_of_none e nZ)]; exact s4 _ _ (s3 b o e)⟩
        rw [List.take_add_one, ee]
        exact Paired.snoc (Paired.mono (fun _ _ x => (x.tk (Same.tk s4)).tk tkL) hv) (hv4.tk tkL)
      · rintro H3 ⟨vs, hZ, hv, s3⟩
        rw [List.length_map, List.take_length] at hv
        refine ⟨Z, _, rfl, .inl ⟨SqL.of hZ, fun r nr => ⟨by show 2 ≤ sizeLine; decide, fun o no => ?_⟩⟩⟩
        have s4 := same_new (o := .tup vs) nr
        have s5 := same_new (o := .tup [.str "rings", .ref r]) no
        have s35 := s3.trans (s4.trans s5)
        refine q (.ref o) _ (k2.trans (Kt.same T2 s35)) ?_
        unfold PPV
        rw [hkb]
        exact .inl ⟨hle, o, r, vs, rfl, upd_same, s5 _ _ upd_same, Paired.mono (fun _ _ x => x.tk (Same.tk (s4.trans s5))) hv⟩
    · rw [decide_eq_false hle]
      cases d with
      | zero =>
        have el0 : ks.length = P.length := by omega
        rw [el0, List.take_length] at ek
        rw [kb_all ek cl] at hle
        exact (hle (lex.val.le (cOf ks))).elim
      | succ d =>
        have kl : ks.length < P.length := by omega
        obtain ⟨pl, epl⟩ : ∃ pl, P[ks.length]? = some pl := ⟨_, List.getElem?_eq_getElem kl⟩
        have etk : P.take (ks.length + 1) = P.take ks.length ++ [pl] := by rw [List.take_add_one, epl]; rfl
        have npl : pl ∉ ks.map (·.1) := by
          rw [ek]
          have h1 := nd.sublist (List.take_sublist (ks.length + 1) P)
          rw [etk, List.nodup_append] at h1
          exact fun z => h1.2.2 pl z pl (by simp) rfl
        have em : mergeK [] (kvOf ks) = kvOf ks := kvOf_merge ks [] ndk
        have lk : (kvOf ks).length ≤ 8 := by rw [kvOf_len]; omega
        have ha2 := k2.dct hT ha
        have ek' : ∀ b : Bool, (ks ++ [(pl, b)]).map (·.1) = P.take (ks ++ [(pl, b)]).length := fun b => by
          rw [List.map_append, ek, List.length_append]
          show _ = P.take (ks.length + 1)
          rw [etk]
          rfl
        refine ⟨.ref p, rfl, .ref a, rfl, a, _, rfl, ha2, p, _, _, .int pl, rfl, rfl, (hp.tk tk2).sq, by rw [kvOf_len]; exact atI_nat (by rw [List.getElem?_map, epl]; rfl), ?_⟩
        refine ⟨wv, rfl, gv, rfl, .ref row, rfl, .int x.1, rfl, fun o no => ⟨.ref a, rfl, a, kvOf ks, rfl, same_new no _ _ ha2, (fun z => by rw [z, no] at ha2; cases ha2), upd_same, by omega, fun r nr => ?_⟩⟩
        have sr := star_same (B := [(Sum.inl pl, V.int 0)]) (C := kvOf (ks ++ [(pl, false)])) no nr
        have dr : o ≠ r := fun z => by rw [z, upd_same] at nr; cases nr
        refine ⟨.int pl, rfl, Sum.inl pl, kvOf ks, rfl, by rw [upd_ne dr, em]; exact upd_same, by omega, upd_same, dr, ?_⟩
        rw [show putK (kvOf ks) (Sum.inl pl) (V.int 0) = kvOf (ks ++ [(pl, false)]) from kvOf_put (b := false) npl]
        have ho := upd_same (H := upd (upd (upd (upd H2 o (.dK [])) o (.dK (mergeK [] (kvOf ks)))) r (.dK [])) r (.dK [(Sum.inl pl, V.int 0)])) (a := o) (o := .dK (kvOf (ks ++ [(pl, false)])))
        generalize upd (upd (upd (upd (upd H2 o (.dK [])) o (.dK (mergeK [] (kvOf ks)))) r (.dK [])) r (.dK [(Sum.inl pl, V.int 0)])) o (.dK (kvOf (ks ++ [(pl, false)]))) = H3 at sr ho
        have k3 := k2.trans (Kt.same T2 sr)
        have T3 := k3.tab
        have tk3 := k3.tk hT
        refine ⟨wv, gv, p, t, row, o, n, ts, g, P, x, ks ++ [(pl, false)], rfl, hW.tk tk3, ok, hPm, l8, hw.tk tk3, hp.tk tk3, tk3 _ _ ht, tk3 _ _ hrow, lex, ho, ek' false, by rw [List.length_append]; show ks.length + 1 + d = P.length; omega, T3, fun v1 H4 k34 hv1 => ?_⟩
        have k4 := k3.trans k34
        have T4 := k4.tab
        have ha4 := k4.dct hT ha
        clear nr sr dr ho no
        refine ⟨wv, rfl, gv, rfl, .ref row, rfl, .int x.1, rfl, fun o no => ⟨.ref a, rfl, a, kvOf ks, rfl, same_new no _ _ ha4, (fun z => by rw [z, no] at ha4; cases ha4), upd_same, by omega, fun r nr => ?_⟩⟩
        have sr := star_same (B := [(Sum.inl pl, V.int 1)]) (C := kvOf (ks ++ [(pl, true)])) no nr
        have dr : o ≠ r := fun z => by rw [z, upd_same] at nr; cases nr
        refine ⟨.int pl, rfl, Sum.inl pl, kvOf ks, rfl, by rw [upd_ne dr, em]; exact upd_same, by omega, upd_same, dr, ?_⟩
        rw [show putK (kvOf ks) (Sum.inl pl) (V.int 1) = kvOf (ks ++ [(pl, true)]) from kvOf_put (b := true) npl]
        have ho := upd_same (H := upd (upd (upd (upd H4 o (.dK [])) o (.dK (mergeK [] (kvOf ks)))) r (.dK [])) r (.dK [(Sum.inl pl, V.int 1)])) (a := o) (o := .dK (kvOf (ks ++ [(pl, true)])))
        generalize upd (upd (upd (upd (upd H4 o (.dK [])) o (.dK (mergeK [] (kvOf ks)))) r (.dK [])) r (.dK [(Sum.inl pl, V.int 1)])) o (.dK (kvOf (ks ++ [(pl, true)]))) = H5 at sr ho
        have k5 := k4.trans (Kt.same T4 sr)
        have T5 := k5.tab
        have tk5 := k5.tk hT
        refine ⟨wv, gv, p, t, row, o, n, ts, g, P, x, ks ++ [(pl, true)], rfl, hW.tk tk5, ok, hPm, l8, hw.tk tk5, hp.tk tk5, tk5 _ _ ht, tk5 _ _ hrow, lex, ho, ek' true, by rw [List.length_append]; show ks.length + 1 + d = P.length; omega, T5, fun v2 H6 k56 hv2 => ?_⟩
        have k6 := k5.trans k56
        have T6 := k6.tab
        have hv1' := (hv1.tk (Same.tk sr)).tk (k56.tk T5)
        refine ⟨.ref p, rfl, p, _, 0, .int p0, rfl, rfl, (hp.tk (k6.tk hT)).sq, by rw [eP, List.map_cons]; exact atI_nat (j := 0) rfl, .int pl, rfl, v1, rfl, v2, rfl, by show 5 ≤ sizeLine; decide, fun y ny => ?_⟩
        have sy := same_new (o := .tup [.str "case", .int p0, .int pl, v1, v2]) ny
        refine q (.ref y) _ (k6.trans (Kt.same T6 sy)) ?_
        unfold PPV
        exact .inr ⟨hle, y, v1, v2, pl, rfl, epl, by rw [e0]; exact upd_same, hv1'.tk (Same.tk sy), hv2.tk (Same.tk sy)⟩
theorem ok_part_paper {f : Addr} {fd : FuncData} {Ps : List Addr} (F : Fun K "part_paper" "part_paper" s_part_paper f fd) (M : Free mg) (g_part_paper : mg "part_paper" = some (.ref f)) (b_part_paper : L2.Binds K fd ["web", "weights", "row", "least", "sides"] []) (D_known_broken : Df P w K mg base 2 "known_broken" ["web", "ties", "sides"] spKnown) (D_mend_weight : Df P w K mg base 3 "mend_weight" ["weights", "ties"] (spMend Ps)) (D_ring_row : Df P w K mg base 2 "ring_row" ["web", "weights", "part", "tie"] spRingRow41) : ∀ d, FnOk P w K mg base CX0 (5 + d) f fd ["web", "weights", "row", "least", "sides"] (spPart Ps d)
  | 0 => part_paper_step 0 F M g_part_paper b_part_paper ⟨fun vs H Q E h => h.elim, fun B out z H ar us vs Q E _ _ _ _ h => h.elim⟩ D_known_broken D_mend_weight D_ring_row
  | d + 1 => part_paper_step (d + 1) F M g_part_paper b_part_paper (by have h := ok_part_paper F M g_part_paper b_part_paper D_known_broken D_mend_weight D_ring_row d; rw [show 4 + (d + 1) = 5 + d from by omega]; exact h) D_known_broken D_mend_weight D_ring_row
end
/-! ### papers of the mends: the paper of a web -/
def spPartAny (Ps : List Addr) : Sp := fun vs H Q E => ∃ d, d ≤ 7 ∧ spPart Ps d vs H Q E
def RowPaper (H : Hp) (ts : List Tie) (g : Int → Int) (v : V) (P : List Int) : Prop := ∃ a t w x, v = .ref a ∧ H a = some (.tup [.ref t, w]) ∧ H t = some (.tup ((tiesIn ts P).map V.int)) ∧ LexMin ts g (tiesIn ts P) x ∧ PPV H ts g P (tiesIn ts P) x.1 (P.length - 1) w [(P.headD 0, false)]
theorem RowPaper.tk {H H' : Hp} (k : Tk H H') {ts : List Tie} {g : Int → Int} {v : V} {P : List Int} (h : RowPaper H ts g v P) : RowPaper H' ts g v P := by
  obtain ⟨a, t, w, x, e, h1, h2, h3, h4⟩ := h
  exact ⟨a, t, w, x, e, k _ _ h1, k _ _ h2, h3, h4.tk k⟩
def PaperOfV (H : Hp) (ts : List Tie) (n : Nat) (g : Int → Int) (v : V) : Prop := ∃ a r rows, v = .ref a ∧ H a = some (.tup [.str "split", .ref r]) ∧ H r = some (.tup rows) ∧ Paired (RowPaper H ts g) rows ((partsTo ts n n).filter (oddF ts))
theorem PaperOfV.tk {H H' : Hp} (k : Tk H H') {ts : List Tie} {n : Nat} {g : Int → Int} {v : V} (h : PaperOfV H ts n g v) : PaperOfV H' ts n g v := by
  obtain ⟨a, r, rows, e, h1, h2, h3⟩ := h
  exact ⟨a, r, rows, e, k _ _ h1, k _ _ h2, Paired.mono (fun _ _ x => x.tk k) h3⟩
def spPaperOf (Ps : List Addr) : Sp := fun vs H Q _ => ∃ (wv gv : V) (n : Nat) (ts : List Tie) (g : Int → Int), vs = [wv, gv] ∧ WebAt H wv n ts ∧ WebOk n ts ∧ (∀ P ∈ partsTo ts n n, oddF ts P = true → P.length ≤ 8) ∧ Wts H gv (rng ts.length) g ∧ Tabs Ps H ∧ ∀ v H', Kt Ps H H' → PaperOfV H' ts n g v → Q v H'
section
variable {P : Program} {w : World} {K : PySem.W.Frag} {mg : Str → Option Value} {base : Heap}
theorem ok_part_any {f : Addr} {fd : FuncData} {Ps : List Addr} (h : ∀ d, FnOk P w K mg base CX0 (5 + d) f fd ["web", "weights", "row", "least", "sides"] (spPart Ps d)) : FnOk P w K mg base CX0 12 f fd ["web", "weights", "row", "least", "sides"] (spPartAny Ps) :=
  ⟨fun vs H Q E ⟨d, hd, g⟩ => (h d).len vs H Q E g, fun A outer s H ar us vs Q E hr a2 a3 a4 ⟨d, hd, g⟩ => (h d).run A outer s H ar us vs Q E (hr.mono (by omega)) a2 a3 a4 g⟩
set_option maxHeartbeats 8000000 in
theorem ok_paper_of {f : Addr} {fd : FuncData} {Ps : List Addr} (F : FunD K "paper_of" "paper_of" (defArgs s_paper_of) (defBody s_paper_of) (defScope s_paper_of) [.non] [] f fd) (M : Free mg) (D_small_odd_parts : Df P w K mg base 6 "small_odd_parts" ["web"] (spSmallOdd Ps)) (D_least_of_part : Df P w K mg base 4 "least_of_part" ["web", "weights", "part", "ties"] (spLeastOf Ps)) (D_part_paper : Df P w K mg base 12 "part_paper" ["web", "weights", "row", "least", "sides"] (spPartAny Ps)) : FnOk P w K mg base CX0 13 f fd ["web", "weights"] (spPaperOf Ps) := by
  obtain ⟨f_small_odd_parts, fd_small_odd_parts, G_small_odd_parts, g_small_odd_parts, k_small_odd_parts, b_small_odd_parts⟩ := D_small_odd_parts
  obtain ⟨f_least_of_part, fd_least_of_part, G_least_of_part, g_least_of_part, k_least_of_part, b_least_of_part⟩ := D_least_of_part
  obtain ⟨f_part_paper, fd_part_paper, G_part_paper, g_part_paper, k_part_paper, b_part_paper⟩ := D_part_paper
  refine okD F sc_paper_of (fun vs H Q E h => ?_) (fun cdv A outer s H vs Q E hr h => ?_)
  · obtain ⟨wv, gv, n, ts, g, rfl, _⟩ := h
    rfl
  · obtain ⟨wv, gv, n, ts, g, rfl, hW, ok, hb8, hw, hT, q⟩ := h
    refine ⟨_, (pss_cons (ps_set (i := 2) sc_paper_of.nd rfl (.inl rfl) (pe_lst pa_nil))
      (pss_cons (ps_for PassesOwn.never rfl (pi_list (pe_call G_small_odd_parts (hr.mono (by decide)) (by rfl) g_small_odd_parts k_small_odd_parts b_small_odd_parts .nil pass0 (pa_cons (pv 0) pa_nil))) (pg_tup rfl (pgs_cons (pg_name (i := 3) sc_paper_of.nd rfl (.inl rfl)) (pgs_cons (pg_name (i := 4) sc_paper_of.nd rfl (.inl rfl)) pgs_nil)))
        (pss_cons (ps_set (i := 5) sc_paper_of.nd rfl (.inl rfl) (pe_ix ix_tup (pe_call G_least_of_part (hr.mono (by decide)) (by rfl) g_least_of_part k_least_of_part b_least_of_part .nil pass0 (pa_cons (pv 0) (pa_cons (pv 1) (pa_cons (pv 3) (pa_cons (pv 4) pa_nil))))) pe_int (fun _ _ => rfl)))
        (pss_one (ps_expr (pe_bm PySem.F.plainAttrs_list PySem.F.slot_list_append PySem.F.type_list_append mt_append (pv 2) (pa_cons (pe_tup (pa_cons (pv 4) (pa_cons (pe_call G_part_paper (hr.mono (by decide)) (by rfl) g_part_paper k_part_paper b_part_paper .nil pass0 (pa_cons (pv 0) (pa_cons (pv 1) (pa_cons (pe_tup (pa_cons (pv 3) (pa_cons (pv 4) pa_nil))) (pa_cons (pv 5) (pa_cons (pe_disp (pps_cons (pe_ix ix_tup (pv 3) pe_int (fun _ _ => rfl)) pe_int pps_nil) (by rfl) (by rfl) (fun z => by cases z) (by decide)) pa_nil)))))) pa_nil))) pa_nil))))))
      (pss_one (ps_ret (pe_tup (pa_cons pe_str (pa_cons (pe_callTy call_tuple_of (by rfl) M.tuple (by decide +kernel) (pa_cons (pv 2) pa_nil)) pa_nil))))))), ?_⟩
    have few := ok.few
    have hi40 := ok.hi
    have lpt := partsTo_len ts n n
    refine ⟨Nat.zero_le _, fun L nL => ?_⟩
    have s1 := same_new (o := .lst []) nL
    have hL := upd_same (H := H) (a := L) (o := .lst [])
    generalize upd H L (.lst []) = H1 at s1 hL
    have k1 := Kt.same hT s1
    refine ⟨wv, rfl, wv, n, ts, rfl, hW.tk (Same.tk s1), ok, hb8, k1.tab, fun R rows H2 k12 nR hR hrows => ?_⟩
    have k2 := k1.trans k12
    have RL : R ≠ L := fun z => by rw [z, hL] at nR; cases nR
    refine ⟨R, rfl, ⟨_, SqL.of hR⟩, ?_⟩
    have lrows := Paired.length hrows
    have lf := List.length_filter_le (oddF ts) (partsTo ts n n)
    refine for_list (xs := rows) (fun i σ' H' => ∃ (y3 y4 y5 : Option V) (ys : List V), σ' = [some wv, some gv, some (.ref L), y3, y4, y5] ∧ Kt Ps H H' ∧ H' R = some (.lst rows) ∧ Paired (RowQ H' ts) rows ((partsTo ts n n).filter (oddF ts)) ∧ H' L = some (.lst ys) ∧ Paired (RowPaper H' ts g) ys (((partsTo ts n n).filter (oddF ts)).take i)) ⟨none, none, none, [], rfl, k2, hR, hrows, k12.lst k1.tab hL, .nil⟩ (fun i σ' H' _ h => by
      obtain ⟨_, _, _, _, _, _, h, _⟩ := h
      exact SqL.of h) ?_ ?_
    · clear hL hR hrows k1 k2 s1 k12
      rintro i x σ' H4 ex ⟨y3, y4, y5, ys, rfl, k4, hR, hrows, hL, hys⟩
      have T4 := k4.tab
      obtain ⟨P', eP, a, p, t, rfl, ha, hp, ht⟩ := Paired.at hrows ex
      obtain ⟨hPm, od⟩ := List.mem_filter.mp (List.mem_of_getElem? eP)
      have il := (List.getElem?_eq_some_iff.mp ex).1
      have l8 := hb8 P' hPm od
      obtain ⟨p0, P0, eP0⟩ := List.exists_cons_of_ne_nil (part_ne hPm)
      have e0 : P'.headD 0 = p0 := by rw [eP0]; rfl
      have wsub : ∀ x ∈ tiesIn ts P', x ∈ rng ts.length := fun x hx => mem_rng.mpr (tiesIn_mem.mp hx).1
      refine ⟨a, _, rfl, SqT.of ha, rfl, _, _, rfl, _, _, rfl, rfl, ?_⟩
      refine ⟨wv, rfl, gv, rfl, .ref p, rfl, .ref t, rfl, wv, gv, p, t, n, ts, g, P', rfl, hW.tk (k4.tk hT), ok, hPm, l8, (hw.tk (k4.tk hT)).sub wsub, hp, ht, T4, fun v x H5 k45 hv hx => ?_⟩
      obtain ⟨b, z, rfl, hb, hz⟩ := hv
      have k5 := k4.trans k45
      have T5 := k5.tab
      have tk45 := k45.tk T4
      have hL5 := k45.lst T4 hL
      refine ⟨b, _, 0, .int x.1, rfl, rfl, SqT.of hb, rfl, ?_⟩
      refine ⟨.ref L, rfl, .inl ⟨rfl, _, SqL.of hL5⟩, .ref t, rfl, wv, rfl, gv, rfl, .ref p, rfl, .ref t, rfl, by show 2 ≤ sizeLine; decide, fun ro nro => ?_⟩
      have s6 := same_new (o := .tup [.ref p, .ref t]) nro
      have hro := upd_same (H := H5) (a := ro) (o := .tup [.ref p, .ref t])
      generalize upd H5 ro (.tup [.ref p, .ref t]) = H6 at s6 hro
      refine ⟨.int x.1, rfl, fun d nd => ?_⟩
      have hp6 := ((hp.tk tk45).same s6)
      refine ⟨.ref p, rfl, p, _, 0, .int p0, rfl, rfl, (hp6.same (same_new nd)).sq, by rw [eP0, List.map_cons]; exact atI_nat (j := 0) rfl, upd_same, [(Sum.inl p0, .int 0)], rfl, by show 1 ≤ 15; decide, ?_⟩
      have sd : Same H6 (upd (upd H6 d (.dK [])) d (.dK (mergeK [] [(Sum.inl p0, V.int 0)]))) := fun b o e => by rw [upd_ne (ne_of_none e nd), upd_ne (ne_of_none e nd)]; exact e
      have hd7 : (upd (upd H6 d (.dK [])) d (.dK (mergeK [] [(Sum.inl p0, V.int 0)]))) d = some (.dK (kvOf [(p0, false)])) := upd_same
      generalize (upd (upd H6 d (.dK [])) d (.dK (mergeK [] [(Sum.inl p0, V.int 0)]))) = H7 at sd hd7
      have s57 := s6.trans sd
      have k7 := k5.trans (Kt.same T5 s57)
      have T7 := k7.tab
      have tk47 := tk45.trans (Same.tk s57)
      have tk7 := k7.tk hT
      have lP : P'.length = P0.length + 1 := by rw [eP0]; rfl
      refine ⟨P'.length - 1, by omega, wv, gv, p, t, ro, d, n, ts, g, P', x, [(p0, false)], rfl, hW.tk tk7, ok, hPm, l8, (hw.tk tk7).sub wsub, hp.tk tk47, tk47 _ _ ht, sd _ _ hro, hx, hd7, ?_, by show 1 + (P'.length - 1) = P'.length; omega, T7, fun wv2 H8 k78 hv2 => ?_⟩
      · rw [eP0]
        rfl
      have k8 := k7.trans k78
      have T8 := k8.tab
      have hL8 := k78.lst T7 (s57 _ _ hL5)
      have tk48 := tk47.trans (k78.tk T7)
      refine ⟨by show 2 ≤ sizeLine; decide, fun y ny => ?_⟩
      have sy := same_new (o := .tup [.ref t, wv2]) ny
      have hLy := sy _ _ hL8
      have lys := Paired.length hys
      rw [List.length_take] at lys
      refine ⟨L, ys, .ref y, rfl, rfl, hLy, small1000 (by omega), ?_⟩
      have tkL := tk_lst (ys := ys ++ [.ref y]) hLy
      have tky := Same.tk sy
      have hR8 := k78.lst T7 (s57 _ _ (k45.lst T4 hR))
      refine ⟨_, _, _, ys ++ [.ref y], rfl, (k8.trans (Kt.same T8 sy)).mutN hT nL, ?_, Paired.mono (fun _ _ x => ((x.tk tk48).tk tky).tk tkL) hrows, upd_same, ?_⟩
      · rw [upd_ne RL]
        exact sy _ _ hR8
      · rw [List.take_add_one, eP]
        refine Paired.snoc (Paired.mono (fun _ _ x => ((x.tk tk48).tk tky).tk tkL) hys) ⟨y, t, wv2, x, rfl, tkL _ _ upd_same, tkL _ _ (tky _ _ (tk48 _ _ ht)), hx, ?_⟩
        rw [e0]
        exact (hv2.tk tky).tk tkL
    · rintro σ' H4 ⟨y3, y4, y5, ys, rfl, k4, _, _, hL, hys⟩
      rw [lrows, List.take_length] at hys
      have T4 := k4.tab
      refine ⟨.ref L, rfl, L, _, rfl, .inl ⟨SqL.of hL, fun r nr => ⟨by show 2 ≤ sizeLine; decide, fun o no => ?_⟩⟩⟩
      have s4 := same_new (o := .tup ys) nr
      have s5 := same_new (o := .tup [.str "split", .ref r]) no
      have tk := Same.tk (s4.trans s5)
      exact q (.ref o) _ (k4.trans (Kt.same T4 (s4.trans s5))) ⟨o, r, ys, rfl, upd_same, s5 _ _ upd_same, Paired.mono (fun _ _ x => x.tk tk) hys⟩
end
/-! ### the law: other webs -/
theorem cut_take {xs : List V} {k : Nat} (h : k ≤ xs.length) : cutV xs none (some (k : Int)) = xs.take k := by
  unfold cutV
  rw [HT.sIx_none, HT.sIx_nat, Nat.min_eq_left h, List.drop_zero]
  rfl
theorem cut_drop {xs : List V} {k : Nat} (h : k ≤ xs.length) : cutV xs (some (k : Int)) none = xs.drop k := by
  unfold cutV
  rw [HT.sIx_none, HT.sIx_nat, Nat.min_eq_left h]
  exact List.take_of_length_le (by rw [List.length_drop]; omega)
/-! ### own refusals -/
/-- a class of refusals, at D, named x, under WebError, at W -/
structure RefT (K : PySem.W.Frag) (mg : Str → Option Value) (x : Str) (D W : Addr) : Prop where
  gD : mg x = some (.ref D)
  gW : mg "WebError" = some (.ref W)
  exc : PySem.W.excIn K D [.type "ValueError", .type "Exception", .type "BaseException", .type "object"] "ValueError.__new__" = true
  kD : PySem.W.keepIn K (.ref D) = true
  tD : PySem.W.typeIn K (.ref D) = some (.type "type")
  ec : ExcC K D
  web : PySem.W.exmOne K (.ref D) (.ref W) = some true
/-- what isinstance tells of its refusals: of the class named x, at C, b -/
structure KitT (K : PySem.W.Frag) (mg : Str → Option Value) (D : Addr) (x : Str) (C : Addr) (b : Bool) : Prop where
  g : mg x = some (.ref C)
  k : PySem.W.kitOne K (.ref D) (.ref C) = some b
section
variable {X : Cx}
def rIsX (K : PySem.W.Frag) (a : Addr) (cls : Value) (d : Option Addr) : List V → Hp → VK → Prop := fun xs H Q => ∃ D, ExcC K D ∧ cls = .ref D ∧ d = none ∧ rIsE K D a xs H Q
theorem call_isX {a : Addr} {cls : Value} {d : Option Addr} {oe : Obj} {pn : List (Addr × Obj)} (hz : Zc cls d oe) (hf : ∃ vs, oe.data = .fields vs) : CallR (X.suite a ((a, oe) :: pn)) (.builtin "isinstance") (rIsX X.K a cls d) := by
  intro pins s σ H xs us Q I r h
  obtain ⟨D, C, rfl, rfl, h⟩ := h
  exact call_isE C hz hf pins s σ H xs us Q I r h
end
def DfX (P : Program) (w : World) (K : PySem.W.Frag) (mg : Str → Option Value) (base : Heap) (k : Nat) (x : Str) (ps : List Str) (sp : Sp) : Prop :=
  ∃ (f : Addr) (fd : FuncData), FnOk P w K mg base (L2.CX P w) k f fd ps sp ∧ mg x = some (.ref f) ∧ PySem.W.keepIn K (.ref f) = true ∧ Binds K fd ps []
theorem DfX.of {P : Program} {w : World} {K : PySem.W.Frag} {mg : Str → Option Value} {base : Heap} {x : Str} {st : Stmt} {f : Addr} {fd : FuncData} {k : Nat} {ps : List Str} {sp : Sp} (g : mg x = some (.ref f)) (F : Fun K x x st f fd) (G : FnOk P w K mg base (L2.CX P w) k f fd ps sp)
    (h : ∀ (kV doc pm : Value) (an : Option Addr) (cdv ct : Value) (us : List Value), us.length = ps.length → bindArgs (PySem.W.fnOf x x (defArgs st) (defBody st) (defScope st) .none kV doc pm an cdv ct) ⟨us, []⟩ = pure (ps.zip us)) : DfX P w K mg base k x ps sp :=
  ⟨f, fd, G, g, F.kp, F.binds h⟩
/-- where a class of refusals stands -/
structure ErrK (K : PySem.W.Frag) (x : Str) (D W : Addr) : Prop where
  ns : PySem.W.nsIn K mainGlobals x = some (some (.ref D))
  nw : PySem.W.nsIn K mainGlobals "WebError" = some (some (.ref W))
  exc : PySem.W.excIn K D [.type "ValueError", .type "Exception", .type "BaseException", .type "object"] "ValueError.__new__" = true
  kD : PySem.W.keepIn K (.ref D) = true
  tD : PySem.W.typeIn K (.ref D) = some (.type "type")
  ec : ExcC K D
  web : PySem.W.exmOne K (.ref D) (.ref W) = some true
theorem errK_mk {K : PySem.W.Frag} {x : Str} {D W : Addr} (p1 : PySem.W.nsIn K mainGlobals x = some (some (.ref D))) (p2 : PySem.W.nsIn K mainGlobals "WebError" = some (some (.ref W)))
    (p3 : PySem.W.excIn K D [.type "ValueError", .type "Exception", .type "BaseException", .type "object"] "ValueError.__new__" = true) (p4 : PySem.W.keepIn K (.ref D) = true) (p5 : PySem.W.typeIn K (.ref D) = some (.type "type"))
    (p6 : PySem.W.findIn K (.ref D) "__getattribute__" = some (some (.builtin "BaseException.__getattribute__"))) (p7 : PySem.W.findIn K (.ref D) "__getattr__" = some none) (p8 : PySem.W.subIn K (.ref D) (.type "BaseException") = some true) (p9 : PySem.W.hasDictIn K D = true)
    (p10 : PySem.W.findIn K (.ref D) "__class__" = some (some (.builtin "object.__class__"))) (p11 : PySem.W.specialIn K (.builtin "object.__class__") "__get__" = some (some (.builtin "getset_descriptor.__get__"))) (p12 : PySem.W.takesIn K (.builtin "object.__class__") = some true) (p13 : PySem.W.mroIn K D (.type "object") = some true)
    (p14 : PySem.W.subIn K (.ref W) (.type "BaseException") = some true) (p15 : PySem.W.hasDictIn K W = true) (p16 : PySem.W.typeIn K (.ref W) = some (.type "type")) (p17 : PySem.W.subIn K (.ref D) (.ref W) = some true) : ErrK K x D W :=
  ⟨p1, p2, p3, p4, p5, ⟨p6, p7, p8, p9, p10, p11, p12, p13⟩, PySem.W.exm_ref p14 p15 p16 p17⟩
theorem ErrK.ref {K : PySem.W.Frag} {mg : Str → Option Value} {h : Heap} {x : Str} {D W : Addr} (e : ErrK K x D W) (X : K.In h) (G : h.Ns mainGlobals mg) : RefT K mg x D W :=
  ⟨PySem.W.mg_of X G e.ns, PySem.W.mg_of X G e.nw, e.exc, e.kD, e.tD, e.ec, e.web⟩
structure KitK (K : PySem.W.Frag) (D : Addr) (x : Str) (C : Addr) (b : Bool) : Prop where
  ns : PySem.W.nsIn K mainGlobals x = some (some (.ref C))
  k : PySem.W.kitOne K (.ref D) (.ref C) = some b
theorem kitK_mk {K : PySem.W.Frag} {D : Addr} {x : Str} {C : Addr} {b : Bool} (p1 : PySem.W.nsIn K mainGlobals x = some (some (.ref C))) (p2 : PySem.W.kitOne K (.ref D) (.ref C) = some b) : KitK K D x C b := ⟨p1, p2⟩
theorem KitK.kit {K : PySem.W.Frag} {mg : Str → Option Value} {h : Heap} {D : Addr} {x : Str} {C : Addr} {b : Bool} (e : KitK K D x C b) (X : K.In h) (G : h.Ns mainGlobals mg) : KitT K mg D x C b := ⟨PySem.W.mg_of X G e.ns, e.k⟩
/-! ### k40: refusals of parts that are too great -/
section
variable {X : Cx}
/-- isinstance(e, (C1, ..)), e the exception that the suite holds -/
def rIsET (K : PySem.W.Frag) (a : Addr) (cls : Value) (d : Option Addr) : List V → Hp → VK → Prop := fun xs H Q => ∃ (D tp : Addr) (cs : List V) (us : List Value) (b : Bool), ExcC K D ∧ cls = .ref D ∧ d = none ∧ xs = [.ref a, .ref tp] ∧ H tp = some (.tup cs) ∧ Paired ClsV cs us ∧ PySem.W.kitAny K (.ref D) us = some b ∧ Q (.bl b) H
theorem call_isET {a : Addr} {cls : Value} {d : Option Addr} {oe : Obj} {pn : List (Addr × Obj)} (hz : Zc cls d oe) (hf : ∃ vs, oe.data = .fields vs) : CallR (X.suite a ((a, oe) :: pn)) (.builtin "isinstance") (rIsET X.K a cls d) := by
  intro pins s σ H xs us Q I r h
  obtain ⟨D, tp, cs, ws, b, C, rfl, rfl, rfl, hT, k, e, q⟩ := h
  obtain ⟨u1, u2, rfl, r1, r2⟩ := vals2 r
  cases (show u2 = Value.ref tp from r2)
  cases (show u1 = Value.ref a from r1)
  obtain ⟨hget, _⟩ := I.pin (a, oe) (List.mem_append.mpr (.inl List.mem_cons_self))
  obtain ⟨vs, hv⟩ := hf
  have J : PySem.W.InstAt s.heap a oe D none := by
    obtain ⟨oc, od, oda, osl⟩ := oe
    obtain ⟨h1, h2⟩ := hz
    dsimp only at h1 h2 hv
    subst h1 h2 hv
    exact ⟨hget, rfl, rfl, trivial⟩
  obtain ⟨_, its, rv, o, h1, h2, n, h3⟩ := (show ObjOk X.prog X.w H s.heap tp (.tup cs) from I.hok tp _ hT)
  have e3 := ClsV.all k rv
  subst e3
  obtain ⟨oc, od, dt, sl⟩ := o
  simp only at h2 h3
  subst h2 h3
  exact PySem.W.kia_tup (PySem.W.handS_kitx_exc C.hg C.hk C.hs C.hd C.ha C.hn C.ht C.hm) I.kIn J h1 e (fun z => nomatch z) fun tk => ⟨.bl b, H, I.kept (t' := tk) fun _ _ z => z, rfl, q⟩
end
theorem DfX.ofD {P : Program} {w : World} {K : PySem.W.Frag} {mg : Str → Option Value} {base : Heap} {x : Str} {st : Stmt} {f : Addr} {fd : FuncData} {k : Nat} {ps : List Str} {sp : Sp} {dv : V} (g : mg x = some (.ref f)) (F : FunD K x x (defArgs st) (defBody st) (defScope st) [dv] [] f fd) (G : FnOk P w K mg base (L2.CX P w) k f fd ps sp)
    (h2 : ∀ (T : Addr) (kV doc pm : Value) (an : Option Addr) (cdv ct : Value) (us its : List Value), us.length = ps.length → its.length = 1 → ∃ k, bindArgs (PySem.W.fnOf x x (defArgs st) (defBody st) (defScope st) (.ref T) kV doc pm an cdv ct) ⟨us, []⟩ = seqItems? (.ref T) >>= k ∧ k (some its.toArray) = pure (ps.zip (us ++ its.drop 1))) : DfX P w K mg base k x ps sp := by
  obtain ⟨ds2, v2, b2⟩ := F.binds1 (ps := ps) ps.length 1 (fun z => by cases z) (by simp) h2
  have e2 : ds2 = [] := by
    cases v2
    rfl
  subst e2
  exact ⟨f, fd, G, g, F.kp, b2⟩
def Great (ts : List Tie) (n : Nat) : Prop := ∃ P ∈ partsTo ts n n, oddF ts P = true ∧ 8 < P.length
def spSmallOddX (Ps : List Addr) (D : Addr) : Sp := fun vs H Q E => ∃ (wv : V) (n : Nat) (ts : List Tie), vs = [wv] ∧ WebAt H wv n ts ∧ WebOk n ts ∧ Tabs Ps H ∧
  ((∀ P ∈ partsTo ts n n, oddF ts P = true → P.length ≤ 8) → ∀ L rows H', Kt Ps H H' → H L = none → H' L = some (.lst rows) → Paired (RowQ H' ts) rows ((partsTo ts n n).filter (oddF ts)) → Q (.ref L) H') ∧ (Great ts n → ∀ H', Kt Ps H H' → E (.ref D) none H')
def spLeastMendX (Ps : List Addr) (D : Addr) : Sp := fun vs H Q E => ∃ (wv gv : V) (n : Nat) (ts : List Tie) (g : Int → Int), vs = [wv, gv] ∧ WebAt H wv n ts ∧ WebOk n ts ∧ Wts H gv (rng ts.length) g ∧ (∀ e ∈ rng ts.length, 1 ≤ g e) ∧ Tabs Ps H ∧
  ((∀ P ∈ partsTo ts n n, oddF ts P = true → P.length ≤ 8) → ∀ v c xs H', Kt Ps H H' → ToldL ts n g xs c → WLV H' v (sumW g (badF ts c (rng ts.length)), badF ts c (rng ts.length)) → Q v H') ∧ (Great ts n → ∀ H', Kt Ps H H' → E (.ref D) none H')
def spPaperOfX (Ps : List Addr) (D : Addr) : Sp := fun vs H Q E => ∃ (wv gv : V) (n : Nat) (ts : List Tie) (g : Int → Int), vs = [wv, gv] ∧ WebAt H wv n ts ∧ WebOk n ts ∧ Wts H gv (rng ts.length) g ∧ Tabs Ps H ∧
  ((∀ P ∈ partsTo ts n n, oddF ts P = true → P.length ≤ 8) → ∀ v H', Kt Ps H H' → PaperOfV H' ts n g v → Q v H') ∧ (Great ts n → ∀ H', Kt Ps H H' → E (.ref D) none H')
section
variable {P : Program} {w : World} {K : PySem.W.Frag} {mg : Str → Option Value} {base : Heap}
theorem FunC.okX {x qual : Str} {st : Stmt} {f c : Addr} {fd : FuncData} {N ps : List Str} {k : Nat} {sp : Sp} (F : FunC K x qual st f fd c) (S : FnScope N ps (defScope st)) (len : ∀ vs H Q E, sp vs H Q E → vs.length = ps.length)
    (hbody : ∀ (A : PySem.Around) (outer : List Env) (s : Shared) (H : Hp) (vs : List V) (Q : VK) (E : XK), Room k (A.deeper (envOfC qual (defScope st) s.heap.objs.size f (.ref c))) → sp vs H Q E →
      ∃ t, PSs (cxOf (L2.CX P w) P w K mg base N qual (defScope st) f (.ref c) A outer s H E) (defBody st) t ∧ t { nx := fun _ H' => Q .non H', rt := Q } (start N vs) H) : FnOk P w K mg base (L2.CX P w) (k + 1) f fd ps sp := by
  obtain ⟨oc, od, kV, doc, pm, an, ct, osl, rfl, lk, hcd⟩ := F.ex
  refine fn_of lk hcd S len fun A outer s H vs Q E hr hsp => ?_
  exact hbody A outer s H vs Q E hr hsp
set_option maxHeartbeats 8000000 in
theorem okX_small_odd_parts {f c Pt : Addr} {fd : FuncData} {tm : Tok} {Ps : List Addr} {D W : Addr} (T : RefT K mg "TooMany" D W) (F : FunC K "small_odd_parts" "small_odd_parts" s_small_odd_parts f fd c) (TB : GxR.TabB base mg c Pt) (hPt : Pt ∈ Ps) (M : Free mg) (m_any : mg "any" = none) (gM : mg "MOST_PLACES" = some (.int 8 tm)) (D_odd_parts : Df P w K mg base 4 "odd_parts" ["web"] (spOddParts Ps)) : FnOk P w K mg base (L2.CX P w) 6 f fd ["web"] (spSmallOddX Ps D) := by
  obtain ⟨f_odd_parts, fd_odd_parts, G_odd_parts, g_odd_parts, k_odd_parts, b_odd_parts⟩ := D_odd_parts
  refine F.okX sc_small_odd_parts (fun vs H Q E h => ?_) (fun A outer s H vs Q E hr h => ?_)
  · obtain ⟨wv, n, ts, rfl, _⟩ := h
    rfl
  · obtain ⟨wv, n, ts, rfl, hW, ok, hT, q0, qe⟩ := h
    refine ⟨_, (pss_cons (ps_set (i := 1) sc_small_odd_parts.nd rfl (.inl rfl) (pe_call G_odd_parts (hr.mono (by decide)) (by rfl) g_odd_parts k_odd_parts b_odd_parts .nil pass0 (pa_cons (pv 0) pa_nil)))
      (pss_cons (ps_if (pt_val (pe_any (k := 4) (own := [("part", 2), ("ties", 3)]) (g := gTup K 2 (gCons (gName 2) (gCons (gName 3) gNil))) hr TB rfl rfl sc_small_odd_parts.nd (by rfl) m_any (pi_list (pv 1)) (blkOk_by (N := N_small_odd_parts) (sc := defScope s_small_odd_parts) (own := [("part", 2), ("ties", 3)]) (by decide +kernel)) ⟨rfl, by decide +kernel, by decide +kernel⟩ (show (".0" : Str) ∉ N_small_odd_parts by decide +kernel) (fun _ _ _ _ _ _ _ => (pg_tup rfl (pgs_cons (pg_name (i := 2) sc_small_odd_parts.nd rfl (.inl rfl)) (pgs_cons (pg_name (i := 3) sc_small_odd_parts.nd rfl (.inl rfl)) pgs_nil))))
          (fun _ _ _ _ _ _ _ hr' => (pe_cmpR op_gt (pe_callB (r := rLen38 K) call_len_seq (by rfl) M.len PySem.boot_len (pa_cons (pv 2) pa_nil)) (pe_glob (v := .int 8) rfl gM ⟨_, rfl⟩) (nomark _)))))
        (pss_one (ps_raise rfl (takes_of rfl rfl rfl rfl) (pmk_own PySem.F.excBase_ValueError T.exc T.gD T.kD (raises_own T.ec.hs T.tD) rfl))) pss_nil)
      (pss_one (ps_ret (pv 1))))), ?_⟩
    refine ⟨wv, rfl, wv, n, ts, rfl, hW, ok, hT, fun L rows H1 k1 nL hL hrows => ?_⟩
    have T1 := k1.tab
    have lpt := partsTo_len ts n n
    have hi40 := ok.hi
    have lrows := Paired.length hrows
    refine ⟨.ref L, rfl, L, rfl, ⟨_, SqL.of hL⟩, T1 Pt hPt, fun j m H' => j + m = rows.length ∧ Kt Ps H1 H' ∧ (∀ i P, i < j → ((partsTo ts n n).filter (oddF ts))[i]? = some P → P.length ≤ 8), fun H7 hH7 => ⟨rows.length, by omega, Kt.tabbed T1 hPt hH7, fun i P hi => (by omega)⟩, fun j m H' hw => ?_⟩
    obtain ⟨em, kt, sm⟩ := hw
    have hL' := kt.lst T1 hL
    by_cases hj : j < rows.length
    · refine .inr ⟨⟨_, _, SqL.of hL', List.getElem?_eq_getElem hj⟩, fun H3 => Kt Ps H1 H3 ∧ (∀ i P, i < j + 1 → ((partsTo ts n n).filter (oddF ts))[i]? = some P → P.length ≤ 8), fun H3 n3 => ⟨m - 1, by omega, by omega, n3.1, n3.2⟩, fun x H7 hy => ?_⟩
      obtain ⟨rfl, fy⟩ := hy
      have ex : rows[j]? = some x := fy _ (SqL.of hL')
      have hrows' := rowsQ_tk (kt.tk T1) hrows
      obtain ⟨P', eP, a, p, t, rfl, ha, hp, ht⟩ := Paired.at hrows' ex
      obtain ⟨hPm, od⟩ := List.mem_filter.mp (List.mem_of_getElem? eP)
      refine ⟨a, _, rfl, SqT.of ha, rfl, _, _, rfl, _, _, rfl, rfl, rfl, .ref p, rfl, p, _, rfl, .inr hp.sq, _, 8, rfl, rfl, _, rfl, ?_⟩
      by_cases l8 : P'.length ≤ 8
      · rw [decide_eq_false (show ¬ (8 : Int) < ((P'.map V.int).length : Nat) by rw [List.length_map]; omega), if_pos rfl]
        refine ⟨kt, fun i Q hi hQ => ?_⟩
        by_cases e : i = j
        · subst e
          rw [eP] at hQ
          rw [← Option.some.inj hQ]
          exact l8
        · exact sm i Q (by omega) hQ
      · rw [decide_eq_true (show (8 : Int) < ((P'.map V.int).length : Nat) by rw [List.length_map]; omega), if_neg (by decide)]
        exact ⟨_, rfl, qe ⟨P', hPm, od, by omega⟩ _ (k1.trans kt)⟩
    · refine .inl ⟨⟨_, SqL.of hL', by omega⟩, ?_⟩
      refine ⟨_, rfl, ?_⟩
      have hb : ∀ P ∈ partsTo ts n n, oddF ts P = true → P.length ≤ 8 := fun P hP hO => by
        obtain ⟨i, hi⟩ := List.getElem?_of_mem (List.mem_filter.mpr ⟨hP, hO⟩)
        exact sm i P (by have := (List.getElem?_eq_some_iff.mp hi).1; omega) hi
      exact ⟨.ref L, rfl, q0 hb L rows _ (k1.trans kt) nL hL' (rowsQ_tk (kt.tk T1) hrows)⟩
set_option maxHeartbeats 8000000 in
theorem okX_least_mend {f : Addr} {fd : FuncData} {Ps : List Addr} {D : Addr} (F : FunD K "least_mend" "least_mend" (defArgs s_least_mend) (defBody s_least_mend) (defScope s_least_mend) [.non] [] f fd) (M : Free mg) (m_sorted : mg "sorted" = none) (D_small_odd_parts : DfX P w K mg base 6 "small_odd_parts" ["web"] (spSmallOddX Ps D)) (D_least_of_part : Df P w K mg base 4 "least_of_part" ["web", "weights", "part", "ties"] (spLeastOf Ps)) (D_mend_weight : Df P w K mg base 3 "mend_weight" ["weights", "ties"] (spMend Ps)) : FnOk P w K mg base (L2.CX P w) 7 f fd ["web", "weights"] (spLeastMendX Ps D) := by
  obtain ⟨f_small_odd_parts, fd_small_odd_parts, G_small_odd_parts, g_small_odd_parts, k_small_odd_parts, b_small_odd_parts⟩ := D_small_odd_parts
  obtain ⟨f_least_of_part, fd_least_of_part, G_least_of_part, g_least_of_part, k_least_of_part, b_least_of_part⟩ := D_least_of_part
  obtain ⟨f_mend_weight, fd_mend_weight, G_mend_weight, g_mend_weight, k_mend_weight, b_mend_weight⟩ := D_mend_weight
  refine FunD.ok F sc_least_mend (fun vs H Q E h => ?_) (fun cdv A outer s H vs Q E hr h => ?_)
  · obtain ⟨wv, gv, n, ts, g, rfl, _⟩ := h
    rfl
  · obtain ⟨wv, gv, n, ts, g, rfl, hW, ok, hw, gp, hT, q0, qe⟩ := h
    refine ⟨_, (pss_cons (ps_set (i := 2) sc_least_mend.nd rfl (.inl rfl) (pe_lst pa_nil))
      (pss_cons (ps_for (passes_of rfl) rfl (pi_list (pe_callS G_small_odd_parts (hr.mono (by decide)) (by rfl) g_small_odd_parts k_small_odd_parts b_small_odd_parts (fun σ => passAt (takes_of rfl rfl rfl rfl) σ) (pa_cons (pv 0) pa_nil))) (pg_tup rfl (pgs_cons (pg_name (i := 3) sc_least_mend.nd rfl (.inl rfl)) (pgs_cons (pg_name (i := 4) sc_least_mend.nd rfl (.inl rfl)) pgs_nil)))
        (PSs.nox (pss_one (ps_expr (pe_bm PySem.F.plainAttrs_list PySem.F.slot_list_extend PySem.F.type_list_extend mt_extendT (pv 2) (pa_cons (pe_ix ix_tup (pe_call G_least_of_part (hr.mono (by decide)) (by rfl) g_least_of_part k_least_of_part b_least_of_part .nil pass0 (pa_cons (pv 0) (pa_cons (pv 1) (pa_cons (pv 3) (pa_cons (pv 4) pa_nil))))) pe_int (fun _ _ => rfl)) pa_nil))))))
      (PSs.nox (pss_one (ps_ret (pe_tup (pa_cons (pe_call G_mend_weight (hr.mono (by decide)) (by rfl) g_mend_weight k_mend_weight b_mend_weight .nil pass0 (pa_cons (pv 1) (pa_cons (pv 2) pa_nil))) (pa_cons (pe_callTy call_tuple_of (by rfl) M.tuple (by decide +kernel) (pa_cons (pe_callB cr_sortedI (by rfl) m_sorted (by decide +kernel) (pa_cons (pv 2) pa_nil)) pa_nil)) pa_nil)))))))), ?_⟩
    have pt := parts_of_web ok.ok
    have few := ok.few
    have hi40 := ok.hi
    have lpt := partsTo_len ts n n
    refine ⟨Nat.zero_le _, fun L nL => ?_⟩
    have s1 := same_new (o := .lst []) nL
    have hL := upd_same (H := H) (a := L) (o := .lst [])
    generalize upd H L (.lst []) = H1 at s1 hL
    have k1 := Kt.same hT s1
    refine ⟨wv, rfl, wv, n, ts, rfl, hW.tk (Same.tk s1), ok, k1.tab, fun hb8 R rows H2 k12 nR hR hrows => ?_, fun hg H2 k12 => qe hg H2 (k1.trans k12)⟩
    have q := q0 hb8
    have k2 := k1.trans k12
    have RL : R ≠ L := fun z => by rw [z, hL] at nR; cases nR
    refine ⟨R, rfl, ⟨_, SqL.of hR⟩, ?_⟩
    have lrows := Paired.length hrows
    have lf := List.length_filter_le (oddF ts) (partsTo ts n n)
    refine for_list (xs := rows) (fun i σ' H' => ∃ (y3 y4 : Option V) (ys : List WL), σ' = [some wv, some gv, some (.ref L), y3, y4] ∧ Kt Ps H H' ∧ H' R = some (.lst rows) ∧ Paired (RowQ H' ts) rows ((partsTo ts n n).filter (oddF ts)) ∧ H' L = some (.lst ((ys.flatMap (·.2)).map V.int)) ∧ Paired (fun P x => LexMin ts g (tiesIn ts P) x) (((partsTo ts n n).filter (oddF ts)).take i) ys ∧ (ys.flatMap (·.2)).length ≤ i * 120) ⟨none, none, [], rfl, k2, hR, hrows, k12.lst k1.tab hL, .nil, Nat.le_refl _⟩ (fun i σ' H' _ h => by
      obtain ⟨_, _, _, _, _, h, _⟩ := h
      exact SqL.of h) ?_ ?_
    · clear hL hR hrows k1 k2 s1 k12
      rintro i x σ' H4 ex ⟨y3, y4, ys, rfl, k4, hR, hrows, hL, hys, lys⟩
      have T4 := k4.tab
      obtain ⟨P', eP, a, p, t, rfl, ha, hp, ht⟩ := Paired.at hrows ex
      obtain ⟨hPm, od⟩ := List.mem_filter.mp (List.mem_of_getElem? eP)
      have il := (List.getElem?_eq_some_iff.mp ex).1
      refine ⟨a, _, rfl, SqT.of ha, rfl, _, _, rfl, _, _, rfl, rfl, ?_⟩
      refine ⟨.ref L, rfl, .inl ⟨rfl, _, SqL.of hL⟩, wv, rfl, gv, rfl, .ref p, rfl, .ref t, rfl, wv, gv, p, t, n, ts, g, P', rfl, hW.tk (k4.tk hT), ok, hPm, hb8 P' hPm od, (hw.tk (k4.tk hT)).sub (fun x hx => mem_rng.mpr (tiesIn_mem.mp hx).1), hp, ht, T4, fun v x H5 k45 hv hx => ?_⟩
      obtain ⟨b, z, rfl, hb, hz⟩ := hv
      have k5 := k4.trans k45
      have hL5 := k45.lst T4 hL
      have l120 : x.2.length ≤ 120 := by
        obtain ⟨c, rfl⟩ := hx.ex
        have h1 := List.length_filter_le (fun e => brkF c (tieAt ts e)) (tiesIn ts P')
        have h2 := tiesIn_len ts P'
        show (badF ts c (tiesIn ts P')).length ≤ 120
        unfold badF
        omega
      refine ⟨b, _, 1, .ref z, rfl, rfl, SqT.of hb, rfl, L, z, _, _, rfl, rfl, hL5, SqT.of hz, ?_, ?_⟩
      · rw [List.length_map, List.length_map]
        have : i * 120 ≤ 40 * 120 := Nat.mul_le_mul_right _ (by omega)
        have e : sizeLine = 16777216 := by decide
        omega
      · have tkL := tk_lst (ys := (ys.flatMap (·.2)).map V.int ++ x.2.map V.int) hL5
        refine ⟨_, _, ys ++ [x], rfl, k5.mutN hT nL, ?_, rowsQ_tk tkL (rowsQ_tk (k45.tk T4) hrows), ?_, ?_, ?_⟩
        · rw [upd_ne RL]
          exact k45.lst T4 hR
        · rw [upd_same, List.flatMap_append, List.map_append]
          simp
        · rw [List.take_add_one, eP]
          exact Paired.snoc hys hx
        · rw [List.flatMap_append, List.length_append]
          simp only [List.flatMap_cons, List.flatMap_nil, List.append_nil]
          omega
    · rintro σ' H4 ⟨y3, y4, ys, rfl, k4, _, _, hL, hys, lys⟩
      rw [lrows, List.take_length] at hys
      have T4 := k4.tab
      obtain ⟨xs, hxs, exs⟩ := lex_fill (ts := ts) (g := g) (f := oddF ts) (fun P hP h0 => by
        have ne := @of_decide_eq_false _ (_) h0
        obtain ⟨c, hc⟩ := Classical.not_not.mp ne
        exact LexMin.zero (fun e he => gp e (mem_rng.mpr (tiesIn_mem.mp he).1)) hc) hys
      obtain ⟨c, told⟩ := told_of_lex ok.ok hxs
      have pm : (ys.flatMap (·.2)).Perm (badF ts c (rng ts.length)) := by
        rw [← exs]
        exact told.perm
      refine ⟨gv, rfl, .ref L, rfl, gv, L, ys.flatMap (·.2), g, rfl, .inr hL, (hw.tk (k4.tk hT)).sub (fun x hx => (List.mem_filter.mp (pm.mem_iff.mp hx)).1), T4, fun H5 k45 => ?_⟩
      have k5 := k4.trans k45
      have hL5 := k45.lst T4 hL
      refine ⟨.ref L, rfl, L, _, rfl, SqL.of hL5, fun ns' s5 pn sn ns => ?_⟩
      have en : ns' = badF ts c (rng ts.length) := rise_of_le sn (pn.trans pm) (badF_rising ts c _)
      subst en
      have ss := same_new (o := .lst ((badF ts c (rng ts.length)).map V.int)) ns
      refine ⟨s5, _, rfl, .inl ⟨SqL.of upd_same, fun z nz => ?_⟩⟩
      have s6 := ss.trans (same_new (o := .tup ((badF ts c (rng ts.length)).map V.int)) nz)
      have hz := upd_same (H := upd H5 s5 (.lst ((badF ts c (rng ts.length)).map V.int))) (a := z) (o := .tup ((badF ts c (rng ts.length)).map V.int))
      generalize upd (upd H5 s5 (.lst ((badF ts c (rng ts.length)).map V.int))) z (.tup ((badF ts c (rng ts.length)).map V.int)) = H6 at s6 hz
      refine ⟨by show 2 ≤ sizeLine; decide, fun r nr => ?_⟩
      have s7 := s6.trans (same_new (o := .tup [.int (sumW g (ys.flatMap (·.2))), .ref z]) nr)
      refine q (.ref r) c xs _ (k5.trans (Kt.same k5.tab s7)) told ⟨r, z, rfl, ?_, same_new nr _ _ hz⟩
      rw [upd_same, sumW_perm pm]
set_option maxHeartbeats 8000000 in
theorem okX_paper_of {f : Addr} {fd : FuncData} {Ps : List Addr} {D : Addr} (F : FunD K "paper_of" "paper_of" (defArgs s_paper_of) (defBody s_paper_of) (defScope s_paper_of) [.non] [] f fd) (M : Free mg) (D_small_odd_parts : DfX P w K mg base 6 "small_odd_parts" ["web"] (spSmallOddX Ps D)) (D_least_of_part : Df P w K mg base 4 "least_of_part" ["web", "weights", "part", "ties"] (spLeastOf Ps)) (D_part_paper : Df P w K mg base 12 "part_paper" ["web", "weights", "row", "least", "sides"] (spPartAny Ps)) : FnOk P w K mg base (L2.CX P w) 13 f fd ["web", "weights"] (spPaperOfX Ps D) := by
  obtain ⟨f_small_odd_parts, fd_small_odd_parts, G_small_odd_parts, g_small_odd_parts, k_small_odd_parts, b_small_odd_parts⟩ := D_small_odd_parts
  obtain ⟨f_least_of_part, fd_least_of_part, G_least_of_part, g_least_of_part, k_least_of_part, b_least_of_part⟩ := D_least_of_part
  obtain ⟨f_part_paper, fd_part_paper, G_part_paper, g_part_paper, k_part_paper, b_part_paper⟩ := D_part_paper
  refine FunD.ok F sc_paper_of (fun vs H Q E h => ?_) (fun cdv A outer s H vs Q E hr h => ?_)
  · obtain ⟨wv, gv, n, ts, g, rfl, _⟩ := h
    rfl
  · obtain ⟨wv, gv, n, ts, g, rfl, hW, ok, hw, hT, q0, qe⟩ := h
    refine ⟨_, (pss_cons (ps_set (i := 2) sc_paper_of.nd rfl (.inl rfl) (pe_lst pa_nil))
      (pss_cons (ps_for (passes_of rfl) rfl (pi_list (pe_callS G_small_odd_parts (hr.mono (by decide)) (by rfl) g_small_odd_parts k_small_odd_parts b_small_odd_parts (fun σ => passAt (takes_of rfl rfl rfl rfl) σ) (pa_cons (pv 0) pa_nil))) (pg_tup rfl (pgs_cons (pg_name (i := 3) sc_paper_of.nd rfl (.inl rfl)) (pgs_cons (pg_name (i := 4) sc_paper_of.nd rfl (.inl rfl)) pgs_nil)))
        (PSs.nox (pss_cons (ps_set (i := 5) sc_paper_of.nd rfl (.inl rfl) (pe_ix ix_tup (pe_call G_least_of_part (hr.mono (by decide)) (by rfl) g_least_of_part k_least_of_part b_least_of_part .nil pass0 (pa_cons (pv 0) (pa_cons (pv 1) (pa_cons (pv 3) (pa_cons (pv 4) pa_nil))))) pe_int (fun _ _ => rfl)))
        (pss_one (ps_expr (pe_bm PySem.F.plainAttrs_list PySem.F.slot_list_append PySem.F.type_list_append mt_append (pv 2) (pa_cons (pe_tup (pa_cons (pv 4) (pa_cons (pe_call G_part_paper (hr.mono (by decide)) (by rfl) g_part_paper k_part_paper b_part_paper .nil pass0 (pa_cons (pv 0) (pa_cons (pv 1) (pa_cons (pe_tup (pa_cons (pv 3) (pa_cons (pv 4) pa_nil))) (pa_cons (pv 5) (pa_cons (pe_disp (pps_cons (pe_ix ix_tup (pv 3) pe_int (fun _ _ => rfl)) pe_int pps_nil) (by rfl) (by rfl) (fun z => by cases z) (by decide)) pa_nil)))))) pa_nil))) pa_nil)))))))
      (PSs.nox (pss_one (ps_ret (pe_tup (pa_cons pe_str (pa_cons (pe_callTy call_tuple_of (by rfl) M.tuple (by decide +kernel) (pa_cons (pv 2) pa_nil)) pa_nil)))))))), ?_⟩
    have few := ok.few
    have hi40 := ok.hi
    have lpt := partsTo_len ts n n
    refine ⟨Nat.zero_le _, fun L nL => ?_⟩
    have s1 := same_new (o := .lst []) nL
    have hL := upd_same (H := H) (a := L) (o := .lst [])
    generalize upd H L (.lst []) = H1 at s1 hL
    have k1 := Kt.same hT s1
    refine ⟨wv, rfl, wv, n, ts, rfl, hW.tk (Same.tk s1), ok, k1.tab, fun hb8 R rows H2 k12 nR hR hrows => ?_, fun hg H2 k12 => qe hg H2 (k1.trans k12)⟩
    have q := q0 hb8
    have k2 := k1.trans k12
    have RL : R ≠ L := fun z => by rw [z, hL] at nR; cases nR
    refine ⟨R, rfl, ⟨_, SqL.of hR⟩, ?_⟩
    have lrows := Paired.length hrows
    have lf := List.length_filter_le (oddF ts) (partsTo ts n n)
    refine for_list (xs := rows) (fun i σ' H' => ∃ (y3 y4 y5 : Option V) (ys : List V), σ' = [some wv, some gv, some (.ref L), y3, y4, y5] ∧ Kt Ps H H' ∧ H' R = some (.lst rows) ∧ Paired (RowQ H' ts) rows ((partsTo ts n n).filter (oddF ts)) ∧ H' L = some (.lst ys) ∧ Paired (RowPaper H' ts g) ys (((partsTo ts n n).filter (oddF ts)).take i)) ⟨none, none, none, [], rfl, k2, hR, hrows, k12.lst k1.tab hL, .nil⟩ (fun i σ' H' _ h => by
      obtain ⟨_, _, _, _, _, _, h, _⟩ := h
      exact SqL.of h) ?_ ?_
    · clear hL hR hrows k1 k2 s1 k12
      rintro i x σ' H4 ex ⟨y3, y4, y5, ys, rfl, k4, hR, hrows, hL, hys⟩
      have T4 := k4.tab
      obtain ⟨P', eP, a, p, t, rfl, ha, hp, ht⟩ := Paired.at hrows ex
      obtain ⟨hPm, od⟩ := List.mem_filter.mp (List.mem_of_getElem? eP)
      have il := (List.getElem?_eq_some_iff.mp ex).1
      have l8 := hb8 P' hPm od
      obtain ⟨p0, P0, eP0⟩ := List.exists_cons_of_ne_nil (part_ne hPm)
      have e0 : P'.headD 0 = p0 := by rw [eP0]; rfl
      have wsub : ∀ x ∈ tiesIn ts P', x ∈ rng ts.length := fun x hx => mem_rng.mpr (tiesIn_mem.mp hx).1
      refine ⟨a, _, rfl, SqT.of ha, rfl, _, _, rfl, _, _, rfl, rfl, ?_⟩
      refine ⟨wv, rfl, gv, rfl, .ref p, rfl, .ref t, rfl, wv, gv, p, t, n, ts, g, P', rfl, hW.tk (k4.tk hT), ok, hPm, l8, (hw.tk (k4.tk hT)).sub wsub, hp, ht, T4, fun v x H5 k45 hv hx => ?_⟩
      obtain ⟨b, z, rfl, hb, hz⟩ := hv
      have k5 := k4.trans k45
      have T5 := k5.tab
      have tk45 := k45.tk T4
      have hL5 := k45.lst T4 hL
      refine ⟨b, _, 0, .int x.1, rfl, rfl, SqT.of hb, rfl, ?_⟩
      refine ⟨.ref L, rfl, .inl ⟨rfl, _, SqL.of hL5⟩, .ref t, rfl, wv, rfl, gv, rfl, .ref p, rfl, .ref t, rfl, by show 2 ≤ sizeLine; decide, fun ro nro => ?_⟩
      have s6 := same_new (o := .tup [.ref p, .ref t]) nro
      have hro := upd_same (H := H5) (a := ro) (o := .tup [.ref p, .ref t])
      generalize upd H5 ro (.tup [.ref p, .ref t]) = H6 at s6 hro
      refine ⟨.int x.1, rfl, fun d nd => ?_⟩
      have hp6 := ((hp.tk tk45).same s6)
      refine ⟨.ref p, rfl, p, _, 0, .int p0, rfl, rfl, (hp6.same (same_new nd)).sq, by rw [eP0, List.map_cons]; exact atI_nat (j := 0) rfl, upd_same, [(Sum.inl p0, .int 0)], rfl, by show 1 ≤ 15; decide, ?_⟩
      have sd : Same H6 (upd (upd H6 d (.dK [])) d (.dK (mergeK [] [(Sum.inl p0, V.int 0)]))) := fun b o e => by rw [upd_ne (ne_of_none e nd), upd_ne (ne_of_none e nd)]; exact e
      have hd7 : (upd (upd H6 d (.dK [])) d (.dK (mergeK [] [(Sum.inl p0, V.int 0)]))) d = some (.dK (kvOf [(p0, false)])) := upd_same
      generalize (upd (upd H6 d (.dK [])) d (.dK (mergeK [] [(Sum.inl p0, V.int 0)]))) = H7 at sd hd7
      have s57 := s6.trans sd
      have k7 := k5.trans (Kt.same T5 s57)
      have T7 := k7.tab
      have tk47 := tk45.trans (Same.tk s57)
      have tk7 := k7.tk hT
      have lP : P'.length = P0.length + 1 := by rw [eP0]; rfl
      refine ⟨P'.length - 1, by omega, wv, gv, p, t, ro, d, n, ts, g, P', x, [(p0, false)], rfl, hW.tk tk7, ok, hPm, l8, (hw.tk tk7).sub wsub, hp.tk tk47, tk47 _ _ ht, sd _ _ hro, hx, hd7, ?_, by show 1 + (P'.length - 1) = P'.length; omega, T7, fun wv2 H8 k78 hv2 => ?_⟩
      · rw [eP0]
        rfl
      have k8 := k7.trans k78
      have T8 := k8.tab
      have hL8 := k78.lst T7 (s57 _ _ hL5)
      have tk48 := tk47.trans (k78.tk T7)
      refine ⟨by show 2 ≤ sizeLine; decide, fun y ny => ?_⟩
      have sy := same_new (o := .tup [.ref t, wv2]) ny
      have hLy := sy _ _ hL8
      have lys := Paired.length hys
      rw [List.length_take] at lys
      refine ⟨L, ys, .ref y, rfl, rfl, hLy, small1000 (by omega), ?_⟩
      have tkL := tk_lst (ys := ys ++ [.ref y]) hLy
      have tky := Same.tk sy
      have hR8 := k78.lst T7 (s57 _ _ (k45.lst T4 hR))
      refine ⟨_, _, _, ys ++ [.ref y], rfl, (k8.trans (Kt.same T8 sy)).mutN hT nL, ?_, Paired.mono (fun _ _ x => ((x.tk tk48).tk tky).tk tkL) hrows, upd_same, ?_⟩
      · rw [upd_ne RL]
        exact sy _ _ hR8
      · rw [List.take_add_one, eP]
        refine Paired.snoc (Paired.mono (fun _ _ x => ((x.tk tk48).tk tky).tk tkL) hys) ⟨y, t, wv2, x, rfl, tkL _ _ upd_same, tkL _ _ (tky _ _ (tk48 _ _ ht)), hx, ?_⟩
        rw [e0]
        exact (hv2.tk tky).tk tkL
    · rintro σ' H4 ⟨y3, y4, y5, ys, rfl, k4, _, _, hL, hys⟩
      rw [lrows, List.take_length] at hys
      have T4 := k4.tab
      refine ⟨.ref L, rfl, L, _, rfl, .inl ⟨SqL.of hL, fun r nr => ⟨by show 2 ≤ sizeLine; decide, fun o no => ?_⟩⟩⟩
      have s4 := same_new (o := .tup ys) nr
      have s5 := same_new (o := .tup [.str "split", .ref r]) no
      have tk := Same.tk (s4.trans s5)
      exact q (.ref o) _ (k4.trans (Kt.same T4 (s4.trans s5))) ⟨o, r, ys, rfl, upd_same, s5 _ _ upd_same, Paired.mono (fun _ _ x => x.tk tk) hys⟩
end
/-! ### k40: the least, or none where a part is too great; webs with a great part -/
def spLLeast40 : Sp := fun vs H Q _ => ∃ (n : Nat) (t w : Addr) (us : List V) (ts : List Tie) (ws : List Int), vs = [.int n, .ref t, .ref w] ∧ H t = some (.tup us) ∧ Paired (TieV H) us ts ∧ WebOk n ts ∧ H w = some (.tup (ws.map V.int)) ∧ ws.length = ts.length ∧ (∀ x ∈ ws, (1 : Int) ≤ x) ∧
  ((∀ P ∈ partsTo ts n n, oddF ts P = true → P.length ≤ 8) → ∀ vs H', Same H H' → Paired (fun P v => LeastV ts (gW ws) (tiesIn ts P) v) (partsTo ts n n) vs → Q (.int vs.sum) H') ∧ (Great ts n → ∀ H', Same H H' → Q .non H')
def Pair40 (H : Hp) (v : V) (q : Int × Int) : Prop := ∃ a, v = .ref a ∧ H a = some (.tup [.int q.1, .int q.2])
theorem pairs_tk {H H' : Hp} (k : Tk H H') {vs : List V} {qs : List (Int × Int)} (h : Paired (Pair40 H) vs qs) : Paired (Pair40 H') vs qs := Paired.mono (fun _ _ x => by
  obtain ⟨a, e, h⟩ := x
  exact ⟨a, e, k _ _ h⟩) h
def OkP (n : Int) (q : Int × Int) : Prop := 0 ≤ q.1 ∧ q.1 < n ∧ 0 ≤ q.2 ∧ q.2 < n ∧ q.1 ≠ q.2
theorem snoc_pair {H : Hp} {Z b : Addr} {vs : List V} {qs : List (Int × Int)} (q : Int × Int) (hZ : H Z = some (.lst vs)) (hv : Paired (Pair40 H) vs qs) (nb : H b = none) : Paired (Pair40 (upd (upd H b (.tup [.int q.1, .int q.2])) Z (.lst (vs ++ [.ref b])))) (vs ++ [.ref b]) (qs ++ [q]) := by
  have sb := same_new (o := .tup [.int q.1, .int q.2]) nb
  have hZb := sb _ _ hZ
  exact Paired.snoc (pairs_tk (tk_lst hZb) (pairs_tk (Same.tk sb) hv)) ⟨b, rfl, tk_lst hZb _ _ upd_same⟩
theorem snoc_tie {H : Hp} {Z b : Addr} {vs o : List V} {ts : List Tie} (t : Tie) (hZ : H Z = some (.lst vs)) (hv : Paired (TieV H) vs ts) (nb : H b = none) (e : o = [.int t.one, .int t.other, .str (kindS t.foe)]) : Paired (TieV (upd (upd H b (.tup o)) Z (.lst (vs ++ [.ref b])))) (vs ++ [.ref b]) (ts ++ [t]) := by
  have sb := same_new (o := .tup o) nb
  have hZb := sb _ _ hZ
  subst e
  exact Paired.snoc (ties_tk (tk_lst hZb) (ties_tk (Same.tk sb) hv)) ⟨b, rfl, tk_lst hZb _ _ upd_same⟩
theorem snoc_tie_if {H : Hp} {Z b : Addr} {vs : List V} {ts : List Tie} {p q : Int} {k : Bool} (hZ : H Z = some (.lst vs)) (hv : Paired (TieV H) vs ts) (nb : H b = none) : Paired (TieV (upd (upd H b (.tup [.int p, .int q, if k = true then V.str "foe" else .str "friend"])) Z (.lst (vs ++ [.ref b])))) (vs ++ [.ref b]) (ts ++ [⟨p, q, k⟩]) :=
  snoc_tie ⟨p, q, k⟩ hZ hv nb (by cases k <;> rfl)
theorem ints_lst {xs : List Int} {p : Int} (h0 : 0 ≤ p) (h1 : p < (xs.length : Int)) : ∃ x, atI (xs.map V.int) p = some (.int x) := by
  refine ⟨xs[p.toNat]'(by omega), atI_of' h0 ?_⟩
  rw [List.getElem?_map, List.getElem?_eq_getElem (by omega)]
  rfl
def spGreat : Sp := fun vs H Q _ => ∃ (d c : Addr), vs = [.ref d] ∧ Deck H d c ∧ ∀ (a L B : Addr) (us : List V) (n : Nat) (ts : List Tie) (bs : List Int) H', H' a = some (.tup [.int n, .ref L, .ref B]) → H' L = some (.lst us) → Paired (TieV H') us ts → (∀ t ∈ ts, TieOk n t) → ts.length ≤ 35 → 7 ≤ n → n ≤ 30 → H' B = some (.lst (bs.map V.int)) → (L ≠ d ∧ L ≠ c) → (B ≠ d ∧ B ≠ c) → Deck H' d c → Kp d c H H' → Q (.ref a) H'
section
variable {P : Program} {w : World} {K : PySem.W.Frag} {mg : Str → Option Value} {base : Heap}
set_option maxHeartbeats 8000000 in
theorem okX_l_least {f : Addr} {fd : FuncData} (F : Fun K "_law_least" "_law_least" s_l_least f fd) (M : Free mg) (m_enumerate : mg "enumerate" = none) (D_l_parts : Df P w K mg base 1 "_law_parts" ["_law_many", "_law_ties_here"] spLParts) (D_l_sides : Df P w K mg base 1 "_law_sides" ["_law_many", "_law_ties_here"] spLSides) (D_l_least_part : Df P w K mg base 1 "_law_least_part" ["_law_part", "_law_rows"] spLLeastPart) : FnOk P w K mg base CX0 2 f fd ["_law_many", "_law_ties_here", "_law_weights"] spLLeast40 := by
  obtain ⟨f_l_parts, fd_l_parts, G_l_parts, g_l_parts, k_l_parts, b_l_parts⟩ := D_l_parts
  obtain ⟨f_l_sides, fd_l_sides, G_l_sides, g_l_sides, k_l_sides, b_l_sides⟩ := D_l_sides
  obtain ⟨f_l_least_part, fd_l_least_part, G_l_least_part, g_l_least_part, k_l_least_part, b_l_least_part⟩ := D_l_least_part
  refine F.ok sc_l_least (fun vs H Q E h => ?_) (fun cdv A outer s H vs Q E hr h => ?_)
  · obtain ⟨n, t, w, us, ts, ws, rfl, _⟩ := h
    rfl
  · obtain ⟨n, t, w, us, ts, ws, rfl, ht, hp, ok, hw, lw, pos, q0, qe⟩ := h
    refine ⟨_, (pss_cons (ps_set (i := 3) sc_l_least.nd rfl (.inl rfl) pe_int)
      (pss_cons (ps_for PassesOwn.never rfl (pi_list (pe_call G_l_parts (hr.mono (by decide)) (by rfl) g_l_parts k_l_parts b_l_parts .nil pass0 (pa_cons (pv 0) (pa_cons (pv 1) pa_nil)))) (pg_name (i := 4) sc_l_least.nd rfl (.inr rfl))
        (pss_cons (ps_setLc (i := 5) (own := [("_law_k", 6), ("_law_tie", 7)]) (g := (gTup K 2 (gCons (gName 6) (gCons (gName 7) gNil)))) (te := tVar 6) rfl sc_l_least.nd rfl rfl (sw_true rfl rfl rfl (by decide +kernel)) (pi_enumT (by rfl) m_enumerate (pa_cons (pv 1) pa_nil)) (blkOk_by (N := N_l_least) (sc := defScope s_l_least) (own := [("_law_k", 6), ("_law_tie", 7)]) (by decide +kernel)) (fun _ _ _ _ _ => (pg_tup rfl (pgs_cons (pg_name (i := 6) sc_l_least.nd rfl (.inl rfl)) (pgs_cons (pg_name (i := 7) sc_l_least.nd rfl (.inl rfl)) pgs_nil)))) (fun _ _ _ _ _ => (pts_one (pt_cmpR (r := rIn K false) op_in_seq (pe_ix (r := rIxT K) ix_tup (pv 7) pe_int (fun _ _ => rfl)) (pv 4) rfl))) (fun _ _ _ _ _ => (pv 6)))
        (pss_one (ps_if (pt_cmpR op_isN (pe_call G_l_sides (hr.mono (by decide)) (by rfl) g_l_sides k_l_sides b_l_sides .nil pass0 (pa_cons (pv 0) (pa_cons (pe_lc (own := [("_law_k", 6)]) (g := (gName 6)) (tt := tYes) rfl sc_l_least.nd (pi_list (pv 5)) (blkOk_by (N := N_l_least) (sc := defScope s_l_least) (own := [("_law_k", 6)]) (by decide +kernel)) (fun _ _ _ _ _ => (pg_name (i := 6) sc_l_least.nd rfl (.inl rfl))) (fun _ _ _ _ _ => pts_nil) (fun _ _ _ _ _ => (pe_ix (r := rIxT K) ix_tup (pv 1) (pv 6) (fun _ _ => rfl)))) pa_nil))) pe_non (nomark _))
          (pss_cons (ps_if (pt_cmpR op_gt (pe_callB call_len_seq (by rfl) M.len PySem.boot_len (pa_cons (pv 4) pa_nil)) pe_int (nomark _))
            (pss_one (ps_ret pe_non))
            pss_nil)
          (pss_one (ps_set (i := 3) sc_l_least.nd rfl (.inl rfl) (pe_op op_add (pv 3) (pe_call G_l_least_part (hr.mono (by decide)) (by rfl) g_l_least_part k_l_least_part b_l_least_part .nil pass0 (pa_cons (pv 4) (pa_cons (pe_lc (own := [("_law_k", 6)]) (g := (gName 6)) (tt := tYes) rfl sc_l_least.nd (pi_list (pv 5)) (blkOk_by (N := N_l_least) (sc := defScope s_l_least) (own := [("_law_k", 6)]) (by decide +kernel)) (fun _ _ _ _ _ => (pg_name (i := 6) sc_l_least.nd rfl (.inl rfl))) (fun _ _ _ _ _ => pts_nil) (fun _ _ _ _ _ => (pe_op op_catU (pe_ix (r := rIxT K) ix_tup (pv 1) (pv 6) (fun _ _ => rfl)) (pe_tup (pa_cons (pe_ix (r := rIxT K) ix_tup (pv 2) (pv 6) (fun _ _ => rfl)) pa_nil))))) pa_nil)))))))
          pss_nil))))
      (pss_one (ps_ret (pv 3))))), ?_⟩
    have few := ok.few
    have hlen : us.length = ts.length := Paired.length hp
    have pt := parts_of_web ok.ok
    refine ⟨.int n, rfl, .ref t, rfl, n, t, us, ts, rfl, ht, hp, ok, fun L fs H1 s1 hL hfs => ?_⟩
    refine ⟨L, rfl, ⟨_, SqL.of hL⟩, ?_⟩
    have lfs := Paired.length hfs
    refine for_list (xs := fs) (fun i σ' H' => ∃ (y4 y5 : Option V) (vs : List Int), σ' = [some (.int n), some (.ref t), some (.ref w), some (.int vs.sum), y4, y5, none, none] ∧ Same H1 H' ∧ Paired (fun P v => LeastV ts (gW ws) (tiesIn ts P) v) ((partsTo ts n n).take i) vs ∧ (∀ P ∈ (partsTo ts n n).take i, oddF ts P = true → P.length ≤ 8)) ⟨none, none, [], rfl, Same.refl _, .nil, fun P hP => by simp at hP⟩ (fun i σ' H' _ h => by
      obtain ⟨_, _, _, _, h, _⟩ := h
      exact SqL.of (h _ _ hL)) ?_ ?_
    · rintro i x σ' H2 ex ⟨y4, y5, vs, rfl, s2, hvs, sm8⟩
      obtain ⟨P, eP, a, rfl, ha⟩ := Paired.at hfs ex
      have hPm := List.mem_of_getElem? eP
      have cl := tiesIn_cl pt hPm
      have sm9 : (oddF ts P = true → P.length ≤ 8) → ∀ R ∈ (partsTo ts n n).take (i + 1), oddF ts R = true → R.length ≤ 8 := fun hR R hRm hO => by
        rw [List.take_add_one, eP] at hRm
        rcases List.mem_append.mp hRm with z | z
        · exact sm8 R z hO
        · have : R = P := by simpa using z
          subst this
          exact hR hO
      have s02 := s1.trans s2
      have ltI := tiesIn_len ts P
      refine ⟨.ref t, rfl, t, us, rfl, SqT.of (s02 _ _ ht), fun Z nZ => ?_⟩
      refine lc_it (walk_enumT (xs := us)) (fun i H' => H' Z = some (.lst ((tiesTo ts P i).map V.int)) ∧ Same H2 H') ⟨upd_same, same_new nZ⟩ (fun i H' _ h => SqT.of (h.2 _ _ (s02 _ _ ht))) ?_ ?_
      · rintro i x H3 H4 hi ⟨hZ, s3⟩ ⟨T, x1, y, rfl, nT, rfl, e1, e2⟩
        obtain rfl : V.int (i : Nat) = x1 := Option.some.inj e1
        obtain ⟨u, et, c, rfl, hc⟩ := Paired.at hp e2
        have s4 := s3.trans (same_new (o := .tup [.int (i : Nat), .ref c]) nT)
        have s04 := s02.trans s4
        have hZ2 := same_new (o := .tup [.int (i : Nat), .ref c]) nT _ _ hZ
        refine ⟨T, _, rfl, SqT.of upd_same, rfl, _, _, rfl, _, _, rfl, rfl, rfl, .ref c, rfl, c, _, 0, _, rfl, rfl, SqT.of (s04 _ _ hc), rfl, .ref a, rfl, a, _, rfl, .inl (SqL.of (s4 _ _ (s2 _ _ ha))), rfl, flat_ints _, _, rfl, ?_⟩
        have et2 := tieAt_of et
        have lb := tiesTo_len ts P i
        rw [tiesTo_succ, et2, List.map_append, in_ints]
        cases hb : P.contains u.one with
        | true =>
          rw [if_pos (List.contains_iff_mem.mp hb)]
          exact ⟨.int i, rfl, _, hZ2, by rw [List.length_map]; exact small1000 (by omega), upd_same, fun b o e => by rw [upd_ne (ne_of_none e nZ)]; exact s4 b o e⟩
        | false =>
          rw [if_neg (fun z => by rw [List.contains_iff_mem.mpr z] at hb; cases hb), List.map_nil, List.append_nil]
          exact ⟨hZ2, s4⟩
      · rintro H3 ⟨hZ, s3⟩
        rw [hlen] at hZ
        have hZ : H3 Z = some (.lst ((tiesIn ts P).map V.int)) := hZ
        have s03 := s02.trans s3
        refine ⟨.int n, rfl, .ref Z, rfl, Z, rfl, ⟨_, SqL.of hZ⟩, fun Y nY => ?_⟩
        have tieV : ∀ e ∈ tiesIn ts P, ∃ c, atI us e = some (.ref c) ∧ H c = some (.tup [.int (tieAt ts e).one, .int (tieAt ts e).other, .str (kindS (tieAt ts e).foe)]) := fun e he => by
          have er := (tiesIn_mem.mp he).1
          obtain ⟨ut, eut, euo⟩ := getI (xs := us) er.1 (by omega)
          obtain ⟨t', et', cc, rfl, hcc⟩ := Paired.at hp euo
          have ett : tieAt ts e = t' := by
            have := tieAt_of et'
            rw [Int.toNat_of_nonneg er.1] at this
            exact this
          exact ⟨cc, eut, by rw [ett]; exact hcc⟩
        refine lc_list (xs := (tiesIn ts P).map V.int) (fun j H' => ∃ vs', H' Y = some (.lst vs') ∧ Paired (TieV H') vs' (tiesAt ts ((tiesIn ts P).take j)) ∧ Same H3 H') ⟨[], upd_same, .nil, same_new nY⟩ (fun j H' _ h => by
          obtain ⟨_, _, _, h⟩ := h
          exact SqL.of (h _ _ hZ)) ?_ ?_
        · rintro j x H4 ej ⟨vs', hY, hv, s4⟩
          obtain ⟨e, ee, rfl⟩ : ∃ e, (tiesIn ts P)[j]? = some e ∧ x = .int e := by
            rw [List.getElem?_map] at ej
            cases hP : (tiesIn ts P)[j]? with
            | none => rw [hP] at ej; cases ej
            | some pl => rw [hP] at ej; exact ⟨pl, rfl, (Option.some.inj ej).symm⟩
          have jl := (List.getElem?_eq_some_iff.mp ee).1
          obtain ⟨c, ec, hc⟩ := tieV e (List.mem_of_getElem? ee)
          have lv := Paired.length hv
          unfold tiesAt at lv
          rw [List.length_map, List.length_take] at lv
          refine ⟨rfl, .ref t, rfl, .int e, rfl, t, us, e, .ref c, rfl, rfl, SqT.of (s4 _ _ (s03 _ _ ht)), ec, vs', hY, small1000 (by omega), vs' ++ [.ref c], upd_same, ?_, fun b o e => by rw [upd_ne (ne_of_none e nY)]; exact s4 b o e⟩
          have sm : ∀ {v : V} {t : Tie}, TieV H4 v t → TieV (upd H4 Y (.lst (vs' ++ [.ref c]))) v t := fun {v t} x => by
            obtain ⟨a, e, h⟩ := x
            exact ⟨a, e, by rw [upd_ne (fun z => by rw [z, hY] at h; cases h)]; exact h⟩
          have et : tiesAt ts ((tiesIn ts P).take (j + 1)) = tiesAt ts ((tiesIn ts P).take j) ++ [tieAt ts e] := by
            unfold tiesAt
            rw [List.take_add_one, ee, List.map_append]
            rfl
          rw [et]
          exact Paired.snoc (Paired.mono (fun _ _ x => sm x) hv) (sm ⟨c, rfl, s4 _ _ (s03 _ _ hc)⟩)
        · rintro H4 ⟨vs', hY, hv, s4⟩
          rw [List.length_map, List.take_length] at hv
          have okA : WebOk n (tiesAt ts (tiesIn ts P)) := ⟨ok.lo, ok.hi, by unfold tiesAt; rw [List.length_map]; omega, fun t ht => by
            obtain ⟨e, he, rfl⟩ := List.mem_map.mp ht
            exact ok.ok _ (tieAt_mem (mem_rng.mpr (tiesIn_mem.mp he).1))⟩
          refine ⟨n, Y, vs', _, rfl, hY, hv, okA, fun r H5 s5 hr' => ⟨rfl, _, rfl, ?_⟩⟩
          rw [odd_tiesAt ok.ok P] at hr'
          have s35 := s4.trans s5
          have s25 := s3.trans s35
          by_cases hn : r = .non
          · rw [decide_eq_true hn]
            have od := hr'.mp hn
            refine ⟨.ref a, rfl, a, _, rfl, .inl (SqL.of (s25 _ _ (s2 _ _ ha))), _, 8, rfl, rfl, _, rfl, ?_⟩
            by_cases l8 : P.length ≤ 8
            rotate_left
            · rw [decide_eq_true (show (8 : Int) < ((P.map V.int).length : Nat) by rw [List.length_map]; omega)]
              exact qe ⟨P, hPm, @decide_eq_true _ (_) od, by omega⟩ _ (s02.trans s25)
            rw [decide_eq_false (show ¬ (8 : Int) < ((P.map V.int).length : Nat) by rw [List.length_map]; omega)]
            refine ⟨.int _, rfl, .ref a, rfl, .ref Z, rfl, Z, rfl, ⟨_, SqL.of (s35 _ _ hZ)⟩, fun X nX => ?_⟩
            have s05 := s03.trans s35
            refine lc_list (xs := (tiesIn ts P).map V.int) (fun j H' => ∃ rs, H' X = some (.lst rs) ∧ Paired (RowL H' ts (gW ws)) rs ((tiesIn ts P).take j) ∧ Same H5 H') ⟨[], upd_same, .nil, same_new nX⟩ (fun j H' _ h => by
              obtain ⟨_, _, _, h⟩ := h
              exact SqL.of (h _ _ (s35 _ _ hZ))) ?_ ?_
            · rintro j x H6 ej ⟨rs, hX, hrs, s6⟩
              obtain ⟨e, ee, rfl⟩ : ∃ e, (tiesIn ts P)[j]? = some e ∧ x = .int e := by
                rw [List.getElem?_map] at ej
                cases hP : (tiesIn ts P)[j]? with
                | none => rw [hP] at ej; cases ej
                | some pl => rw [hP] at ej; exact ⟨pl, rfl, (Option.some.inj ej).symm⟩
              have jl := (List.getElem?_eq_some_iff.mp ee).1
              have em := List.mem_of_getElem? ee
              have er := (tiesIn_mem.mp em).1
              obtain ⟨c, ec, hc⟩ := tieV e em
              have s06 := s05.trans s6
              have lv := Paired.length hrs
              rw [List.length_take] at lv
              refine ⟨rfl, .ref t, rfl, .int e, rfl, t, us, e, .ref c, rfl, rfl, SqT.of (s06 _ _ ht), ec, .ref w, rfl, .int e, rfl, w, _, e, .int (gW ws e), rfl, rfl, SqT.of (s06 _ _ hw), gW_at er.1 (by omega), by show 1 ≤ sizeLine; decide, fun D nD => ?_⟩
              have sD := same_new (o := .tup [.int (gW ws e)]) nD
              refine ⟨c, D, _, _, rfl, rfl, sD _ _ (s06 _ _ hc), upd_same, by show 4 ≤ 100000; decide, fun r H7 s7 hr7 => ?_⟩
              have s67 := sD.trans s7
              have hX7 := s67 _ _ hX
              refine ⟨rs, hX7, small1000 (by omega), rs ++ [.ref r], upd_same, ?_, fun b o e => by rw [upd_ne (ne_of_none e nX)]; exact s67 _ _ (s6 b o e)⟩
              rw [List.take_add_one, ee]
              have tkL := tk_lst (ys := rs ++ [.ref r]) hX7
              exact Paired.snoc (Paired.mono (fun _ _ x => (x.tk (Same.tk s67)).tk tkL) hrs) ⟨r, rfl, tkL _ _ hr7⟩
            · rintro H6 ⟨rs, hX, hrs, s6⟩
              rw [List.length_map, List.take_length] at hrs
              refine ⟨a, X, rs, ts, gW ws, P, tiesIn ts P, rfl, s6 _ _ (s25 _ _ (s2 _ _ ha)), hX, hrs, by omega, fun e he => (by
                have er := (tiesIn_mem.mp he).1
                exact gW_pos pos er.1 (by omega)), (part_pw hPm).imp (fun {a b} h => by omega), part_ne hPm, l8, cl, fun v H7 s7 hv => ⟨_, _, rfl, rfl, ?_⟩⟩
              refine ⟨some (.ref a), some (.ref Z), vs ++ [v], ?_, (s2.trans s25).trans (s6.trans s7), ?_, sm9 fun _ => l8⟩
              · rw [sum_snoc]
                rfl
              · rw [List.take_add_one, eP]
                exact Paired.snoc hvs hv
          · rw [decide_eq_false hn]
            have ev : ¬ oddP ts P := fun z => hn (hr'.mpr z)
            obtain ⟨c, hc⟩ := Classical.not_not.mp ev
            have l0 : LeastV ts (gW ws) (tiesIn ts P) 0 := (LexMin.zero (fun e he => by
              have er := (tiesIn_mem.mp he).1
              exact gW_pos pos er.1 (by omega)) hc).val
            refine ⟨some (.ref a), some (.ref Z), vs ++ [0], ?_, s2.trans s25, ?_, sm9 fun h => absurd (@of_decide_eq_true _ (_) h) ev⟩
            · rw [sum_snoc, Int.add_zero]
              rfl
            · rw [List.take_add_one, eP]
              exact Paired.snoc hvs l0
    · rintro σ' H2 ⟨y4, y5, vs, rfl, s2, hvs, sm8⟩
      rw [lfs, List.take_length] at hvs sm8
      exact ⟨_, rfl, q0 sm8 vs H2 (s1.trans s2) hvs⟩
set_option maxHeartbeats 8000000 in
theorem ok_l_great {f : Addr} {fd : FuncData} (F : Fun K "_law_great" "_law_great" s_l_great f fd) (M : Free mg) (m_enumerate : mg "enumerate" = none) (D_l_take : Df P w K mg base 1 "_law_take" ["_law_deck_here", "_law_many"] spDraw) : FnOk P w K mg base CX0 2 f fd ["_law_deck_here"] spGreat := by
  obtain ⟨f_l_take, fd_l_take, G_l_take, g_l_take, k_l_take, b_l_take⟩ := D_l_take
  refine F.ok sc_l_great (fun vs H Q E h => ?_) (fun cdv A outer s H vs Q E hr h => ?_)
  · obtain ⟨d, c, rfl, _⟩ := h
    rfl
  · obtain ⟨d, c, rfl, hD, q⟩ := h
    refine ⟨_, (Evl.pss_cut (ps_set (i := 1) sc_l_great.nd rfl (.inl rfl) (pe_ix ix_list (pe_lst (pa_cons (pe_op op_add pe_int (pe_call G_l_take (hr.mono (by decide)) (by rfl) g_l_take k_l_take b_l_take .nil pass0 (pa_cons (pv 0) (pa_cons pe_int pa_nil)))) (pa_cons (pe_op op_add pe_int (pe_call G_l_take (hr.mono (by decide)) (by rfl) g_l_take k_l_take b_l_take .nil pass0 (pa_cons (pv 0) (pa_cons pe_int pa_nil)))) pa_nil))) (pe_callTy call_int1 (by rfl) M.int (by decide +kernel) (pa_cons (pe_cmpR op_eq (pe_call G_l_take (hr.mono (by decide)) (by rfl) g_l_take k_l_take b_l_take .nil pass0 (pa_cons (pv 0) (pa_cons pe_int pa_nil))) pe_int (nomark _)) pa_nil)) (fun _ _ => rfl)))
      (pss_cons (ps_setLc (i := 2) (own := [("_law_place", 3)]) (g := (gName 3)) (tt := tYes) rfl sc_l_great.nd rfl rfl (sw_true rfl rfl rfl (by decide +kernel)) (pi_range1 (by rfl) M.range (pa_cons (pv 1) pa_nil)) (blkOk_by (N := N_l_great) (sc := defScope s_l_great) (own := [("_law_place", 3)]) (by decide +kernel)) (fun _ _ _ _ _ => (pg_name (i := 3) sc_l_great.nd rfl (.inl rfl))) (fun _ _ _ _ _ => pts_nil) (fun _ _ _ _ _ => (pe_call G_l_take (hr.mono (by decide)) (by rfl) g_l_take k_l_take b_l_take .nil pass0 (pa_cons (pv 0) (pa_cons pe_int pa_nil)))))
      (pss_cons (ps_setLc (i := 4) (own := [("_law_place", 3)]) (g := (gName 3)) (tt := tYes) rfl sc_l_great.nd rfl rfl (sw_true rfl rfl rfl (by decide +kernel)) (pi_range2 (by rfl) M.range (pa_cons pe_int (pa_cons (pv 1) pa_nil))) (blkOk_by (N := N_l_great) (sc := defScope s_l_great) (own := [("_law_place", 3)]) (by decide +kernel)) (fun _ _ _ _ _ => (pg_name (i := 3) sc_l_great.nd rfl (.inl rfl))) (fun _ _ _ _ _ => pts_nil) (fun _ _ _ _ _ => (pe_tup (pa_cons (pv 3) (pa_cons (pe_call G_l_take (hr.mono (by decide)) (by rfl) g_l_take k_l_take b_l_take .nil pass0 (pa_cons (pv 0) (pa_cons (pv 3) pa_nil))) pa_nil)))))
      (pss_cons (ps_for PassesOwn.never rfl (pi_range1 (by rfl) M.range (pa_cons (pe_call G_l_take (hr.mono (by decide)) (by rfl) g_l_take k_l_take b_l_take .nil pass0 (pa_cons (pv 0) (pa_cons pe_int pa_nil))) pa_nil)) (pg_name (i := 5) sc_l_great.nd rfl (.inl rfl))
        (pss_cons (ps_set (i := 6) sc_l_great.nd rfl (.inl rfl) (pe_call G_l_take (hr.mono (by decide)) (by rfl) g_l_take k_l_take b_l_take .nil pass0 (pa_cons (pv 0) (pa_cons (pv 1) pa_nil))))
        (pss_one (ps_expr (pe_bm PySem.F.plainAttrs_list PySem.F.slot_list_append PySem.F.type_list_append mt_append (pv 4) (pa_cons (pe_tup (pa_cons (pv 6) (pa_cons (pe_op op_mod (pe_op op_add (pe_op op_add (pv 6) pe_int) (pe_call G_l_take (hr.mono (by decide)) (by rfl) g_l_take k_l_take b_l_take .nil pass0 (pa_cons (pv 0) (pa_cons (pe_op op_sub (pv 1) pe_int) pa_nil)))) (pv 1)) pa_nil))) pa_nil))))))
      (pss_cons (ps_set (i := 7) sc_l_great.nd rfl (.inl rfl) (pe_lst pa_nil))
      (Evl.pss_cut (ps_if (pt_cmpR op_gt (pe_call G_l_take (hr.mono (by decide)) (by rfl) g_l_take k_l_take b_l_take .nil pass0 (pa_cons (pv 0) (pa_cons pe_int pa_nil))) pe_int (nomark _))
        (pss_one (ps_setLc (i := 7) (own := [("_law_k", 5)]) (g := (gName 5)) (te := tVar 5) rfl sc_l_great.nd rfl rfl (sw_true rfl rfl rfl (by decide +kernel)) (pi_range1 (by rfl) M.range (pa_cons (pe_callB call_len_seq (by rfl) M.len PySem.boot_len (pa_cons (pv 4) pa_nil)) pa_nil)) (blkOk_by (N := N_l_great) (sc := defScope s_l_great) (own := [("_law_k", 5)]) (by decide +kernel)) (fun _ _ _ _ _ => (pg_name (i := 5) sc_l_great.nd rfl (.inl rfl))) (fun _ _ _ _ _ => (pts_one (pt_cmpR op_eq (pe_call G_l_take (hr.mono (by decide)) (by rfl) g_l_take k_l_take b_l_take .nil pass0 (pa_cons (pv 0) (pa_cons pe_int pa_nil))) pe_int (nomark _)))) (fun _ _ _ _ _ => (pv 5))))
        pss_nil)
      (pss_cons (ps_set (i := 8) sc_l_great.nd rfl (.inl rfl) (pe_lst pa_nil))
      (pss_cons (ps_for PassesOwn.never rfl (pi_enum (by rfl) m_enumerate (pa_cons (pv 4) pa_nil)) (pg_tup rfl (pgs_cons (pg_name (i := 5) sc_l_great.nd rfl (.inl rfl)) (pgs_cons (pg_tup rfl (pgs_cons (pg_name (i := 6) sc_l_great.nd rfl (.inl rfl)) (pgs_cons (pg_name (i := 9) sc_l_great.nd rfl (.inl rfl)) pgs_nil))) pgs_nil)))
        (pss_one (ps_expr (pe_bm PySem.F.plainAttrs_list PySem.F.slot_list_append PySem.F.type_list_append mt_append (pv 8) (pa_cons (pe_tup (pa_cons (pv 6) (pa_cons (pv 9) (pa_cons (pe_ix ix_list (pe_lst (pa_cons pe_str (pa_cons pe_str pa_nil))) (pe_callTy call_int1 (by rfl) M.int (by decide +kernel) (pa_cons (pe_cmpR op_ne (pe_cmpR op_ne (pe_ix ix_list (pv 2) (pv 6) (fun _ _ => rfl)) (pe_ix ix_list (pv 2) (pv 9) (fun _ _ => rfl)) (nomark _)) (pe_cmpR op_in_seq (pv 5) (pv 7) rfl) (nomark _)) pa_nil)) (fun _ _ => rfl)) pa_nil)))) pa_nil)))))
      (pss_one (ps_ret (pe_tup (pa_cons (pv 1) (pa_cons (pv 8) (pa_cons (pv 7) pa_nil)))))))))))))), ?_⟩
    refine ⟨fun σ' H' => ∃ n : Nat, σ' = [some (.ref d), some (.int n), none, none, none, none, none, none, none, none] ∧ 7 ≤ n ∧ n ≤ 30 ∧ Deck H' d c ∧ Kp d c H H', ?_, ?_⟩
    · refine ⟨.ref d, rfl, d, c, 4, rfl, hD, by decide, by decide, fun v1 H1 a1 b1 D1 K1 => ⟨7, v1, rfl, rfl, .ref d, rfl, d, c, 24, rfl, D1, by decide, by decide, fun v2 H2 a2 b2 D2 K2 => ⟨7, v2, rfl, rfl, by show 2 ≤ sizeLine; decide, fun p np => ?_⟩⟩⟩
      refine ⟨.ref d, rfl, d, c, 4, rfl, D2.new np, by decide, by decide, fun v3 H5 a3 b3 D5 K5 => ⟨rfl, .inr ⟨_, rfl, p, _, _, _, rfl, rfl, SqL.of (K5 p _ (D2.ned np).1 (D2.ned np).2 upd_same), pick2 _ _ _, ?_⟩⟩⟩
      have K' := ((K1.trans K2).trans (Kp.new (o := .lst [(fun i j => V.int (i + j)) 7 v1, (fun i j => V.int (i + j)) 7 v2]) np)).trans K5
      cases decide (V.int v3 = V.int 0) with
      | true =>
        refine ⟨(7 + v2).toNat, ?_, by omega, by omega, D5, K'⟩
        rw [show (((7 + v2).toNat : Nat) : Int) = 7 + v2 from by omega]
        rfl
      | false =>
        refine ⟨(7 + v1).toNat, ?_, by omega, by omega, D5, K'⟩
        rw [show (((7 + v1).toNat : Nat) : Int) = 7 + v1 from by omega]
        rfl
    rintro σ' H1 ⟨n, rfl, n7, n30, D1, K1⟩
    refine ⟨.int n, rfl, n, rfl, by omega, by omega, fun Z nZ => ?_⟩
    have Zd := D1.ned nZ
    have sZ := same_new (o := .lst []) nZ
    rw [Int.toNat_natCast]
    refine lc_range (lo := 0) (n := n) (fun j H' => ∃ sd : List Int, H' Z = some (.lst (sd.map V.int)) ∧ sd.length = j ∧ Deck H' d c ∧ Kp d c H1 H') ⟨[], upd_same, rfl, D1.same sZ, Same.kp sZ⟩ ?_ ?_
    · rintro j H2 hj ⟨sd, hZ, ls, D2, K2⟩
      refine ⟨rfl, .ref d, rfl, d, c, 2, rfl, D2, by decide, by decide, fun v H3 a3 b3 D3 K3 => ?_⟩
      refine ⟨_, K3 _ _ Zd.1 Zd.2 hZ, by rw [List.length_map]; exact small1000 (by omega), sd ++ [v], by rw [upd_same, List.map_append]; rfl, by rw [List.length_append, ls]; rfl, D3.mut Zd.1 Zd.2, (K2.trans K3).mut nZ⟩
    rintro H2 ⟨sd, hZ, ls, D2, K12⟩
    have K2 := K1.trans K12
    clear nZ sZ D1 K1 K12
    refine ⟨.int n, rfl, 1, n, rfl, ⟨by decide, by decide, by omega, by omega⟩, fun Y nY => ?_⟩
    have Yd := D2.ned nY
    have YZ : Y ≠ Z := fun z => by rw [z, hZ] at nY; cases nY
    have nY0 := K2.free nY Yd.1 Yd.2
    have sY := same_new (o := .lst []) nY
    rw [show ((n : Int) - 1).toNat = n - 1 by omega]
    refine lc_range (lo := 1) (n := n - 1) (fun j H' => ∃ (ps : List V) (qs : List (Int × Int)), H' Y = some (.lst ps) ∧ Paired (Pair40 H') ps qs ∧ (∀ q ∈ qs, OkP n q) ∧ qs.length = j ∧ H' Z = some (.lst (sd.map V.int)) ∧ Deck H' d c ∧ Kp d c H2 H') ⟨[], [], upd_same, .nil, fun q hq => (by cases hq), rfl, sY _ _ hZ, D2.same sY, Same.kp sY⟩ ?_ ?_
    · rintro j H3 hj ⟨ps, qs, hY, hps, okq, lq, hZ3, D3, K3⟩
      have lps := Paired.length hps
      refine ⟨rfl, .int (1 + (j : Nat)), rfl, .ref d, rfl, .int (1 + (j : Nat)), rfl, d, c, 1 + (j : Nat), rfl, D3, by omega, by omega, fun v H4 a4 b4 D4 K4 => ⟨by show 2 ≤ sizeLine; decide, fun p np => ?_⟩⟩
      have hY4 := K4 _ _ Yd.1 Yd.2 hY
      have hZ4 := K4 _ _ Zd.1 Zd.2 hZ3
      have hps4 := pairs_tk (K4.tk D3) hps
      have sp := same_new (o := .tup [.int (1 + (j : Nat)), .int v]) np
      refine ⟨ps, sp _ _ hY4, small1000 (by omega), ps ++ [.ref p], qs ++ [((1 : Int) + (j : Nat), v)], upd_same, snoc_pair ((1 : Int) + (j : Nat), v) hY4 hps4 np, fun q hq => ?_, by rw [List.length_append, lq]; rfl, by rw [upd_ne (Ne.symm YZ)]; exact sp _ _ hZ4, (D4.same sp).mut Yd.1 Yd.2, ((K3.trans K4).trans (Same.kp sp)).mut nY⟩
      rcases List.mem_append.mp hq with z | z
      · exact okq q z
      · rw [List.mem_singleton.mp z]
        exact ⟨by show (0 : Int) ≤ 1 + (j : Nat); omega, by show (1 : Int) + (j : Nat) < n; omega, a4, by show v < (n : Int); omega, by show (1 : Int) + (j : Nat) ≠ v; omega⟩
    rintro H3 ⟨ps, qs, hY, hps, okq, lq, hZ3, D3, K23⟩
    have K3 := K2.trans K23
    clear hZ D2 K2 nY sY K23
    refine ⟨.ref d, rfl, d, c, 7, rfl, D3, by decide, by decide, fun v H4 a4 b4 D4 K4 => ⟨v, rfl, by omega, by omega, ?_⟩⟩
    refine for_range (lo := 0) (n := v.toNat) (fun i σ' H' => ∃ (y5 y6 : Option V) (ps : List V) (qs : List (Int × Int)), σ' = [some (.ref d), some (.int n), some (.ref Z), none, some (.ref Y), y5, y6, none, none, none] ∧ H' Y = some (.lst ps) ∧ Paired (Pair40 H') ps qs ∧ (∀ q ∈ qs, OkP n q) ∧ qs.length ≤ 29 + i ∧ H' Z = some (.lst (sd.map V.int)) ∧ Deck H' d c ∧ Kp d c H H') ⟨none, none, ps, qs, rfl, K4 _ _ Yd.1 Yd.2 hY, pairs_tk (K4.tk D3) hps, okq, by omega, K4 _ _ Zd.1 Zd.2 hZ3, D4, K3.trans K4⟩ ?_ ?_
    · clear hY hps okq lq ps qs hZ3 D3 K3 D4 K4
      rintro i σ' H5 hi ⟨y5, y6, ps, qs, rfl, hY, hps, okq, lq, hZ, D5, K5⟩
      have lps := Paired.length hps
      generalize V.int (0 + (i : Nat)) = vi
      refine ⟨.ref d, rfl, .int n, rfl, d, c, n, rfl, D5, by omega, by omega, fun v1 H6 a6 b6 D6 K6 => ?_⟩
      refine ⟨.ref Y, rfl, .inl ⟨rfl, _, SqL.of (K6 _ _ Yd.1 Yd.2 hY)⟩, .int v1, rfl, .int v1, rfl, v1, 1, rfl, rfl, .ref d, rfl, .int n, rfl, n, 1, rfl, rfl, d, c, n - 1, rfl, D6, by omega, by omega, fun v2 H7 a7 b7 D7 K7 => ⟨v1 + 1, v2, rfl, rfl, .int n, rfl, _, n, rfl, rfl, (show (0 : Int) < n by omega), by show 2 ≤ sizeLine; decide, fun p np => ?_⟩⟩
      have K57 := K6.trans K7
      have hY7 := K57 _ _ Yd.1 Yd.2 hY
      have hZ7 := K57 _ _ Zd.1 Zd.2 hZ
      have hps7 := pairs_tk (K57.tk D5) hps
      have sp := same_new (o := .tup [.int v1, .int ((v1 + 1 + v2) % n)]) np
      refine ⟨Y, ps, .ref p, rfl, rfl, sp _ _ hY7, small1000 (by omega), ?_⟩
      refine ⟨some vi, some (.int v1), ps ++ [.ref p], qs ++ [(v1, (v1 + 1 + v2) % n)], rfl, upd_same, snoc_pair (v1, (v1 + 1 + v2) % n) hY7 hps7 np, fun q hq => ?_, by rw [List.length_append]; show qs.length + 1 ≤ _; omega, by rw [upd_ne (Ne.symm YZ)]; exact sp _ _ hZ7, (D7.same sp).mut Yd.1 Yd.2, (K5.trans (K57.trans (Same.kp sp))).mut nY0⟩
      rcases List.mem_append.mp hq with z | z
      · exact okq q z
      · rw [List.mem_singleton.mp z]
        exact ⟨a6, b6, (mod_rng (by omega)).1, (mod_rng (by omega)).2, other_ne a6 b6 a7 b7⟩
    clear hY hps okq lq ps qs hZ3 D3 K3 D4 K4
    rintro σ' H5 ⟨y5, y6, ps, qs, rfl, hY, hps, okq, lq, hZ, D5, K5⟩
    have lps := Paired.length hps
    refine ⟨Nat.zero_le _, fun B0 nB0 => ?_⟩
    have s6 := same_new (o := .lst []) nB0
    have B0d := D5.ned nB0
    refine ⟨fun σ' H' => ∃ (y5 y6 : Option V) (B : Addr) (bs : List Int), σ' = [some (.ref d), some (.int n), some (.ref Z), none, some (.ref Y), y5, y6, some (.ref B), none, none] ∧ H' B = some (.lst (bs.map V.int)) ∧ bs.length ≤ 35 ∧ (B ≠ d ∧ B ≠ c) ∧ H' Y = some (.lst ps) ∧ Paired (Pair40 H') ps qs ∧ H' Z = some (.lst (sd.map V.int)) ∧ Deck H' d c ∧ Kp d c H H', ?_, ?_⟩
    · have hY6 := s6 _ _ hY
      have hps6 := pairs_tk (Same.tk s6) hps
      have hZ6 := s6 _ _ hZ
      have D6 := D5.same s6
      have K6 := K5.trans (Same.kp s6)
      have hB6 := upd_same (H := H5) (a := B0) (o := .lst [])
      clear hY hps hZ D5 K5 nB0
      generalize upd H5 B0 (.lst []) = H6 at s6 hY6 hps6 hZ6 D6 K6 hB6
      refine ⟨.ref d, rfl, d, c, 3, rfl, D6, by decide, by decide, fun v H7 a7 b7 D7 K7 => ⟨_, 0, rfl, rfl, _, rfl, ?_⟩⟩
      have hY7 := K7 _ _ Yd.1 Yd.2 hY6
      have hZ7 := K7 _ _ Zd.1 Zd.2 hZ6
      have hps7 := pairs_tk (K7.tk D6) hps6
      have K67 := K6.trans K7
      refine ite2 (fun _ => ?_) (fun _ => ?_)
      · refine ⟨.ref Y, rfl, Y, ps, rfl, .inl (SqL.of hY7), ps.length, rfl, by omega, by omega, fun B nB => ?_⟩
        have Bd := D7.ned nB
        have BY : B ≠ Y := fun z => by rw [z, hY7] at nB; cases nB
        have BZ : B ≠ Z := fun z => by rw [z, hZ7] at nB; cases nB
        have nB0 := K67.free nB Bd.1 Bd.2
        have s8 := same_new (o := .lst []) nB
        rw [Int.toNat_natCast]
        refine lc_range (lo := 0) (n := ps.length) (fun j H' => ∃ bs : List Int, H' B = some (.lst (bs.map V.int)) ∧ bs.length ≤ j ∧ H' Y = some (.lst ps) ∧ Paired (Pair40 H') ps qs ∧ H' Z = some (.lst (sd.map V.int)) ∧ Deck H' d c ∧ Kp d c H H') ⟨[], upd_same, Nat.le_refl _, s8 _ _ hY7, pairs_tk (Same.tk s8) hps7, s8 _ _ hZ7, D7.same s8, K67.trans (Same.kp s8)⟩ ?_ ?_
        · rintro j H8 hj ⟨bs, hB, lb, hY8, hps8, hZ8, D8, K8⟩
          refine ⟨rfl, .ref d, rfl, d, c, 6, rfl, D8, by decide, by decide, fun v H9 a9 b9 D9 K9 => ⟨rfl, _, rfl, ?_⟩⟩
          have hB9 := K9 _ _ Bd.1 Bd.2 hB
          have hY9 := K9 _ _ Yd.1 Yd.2 hY8
          have hZ9 := K9 _ _ Zd.1 Zd.2 hZ8
          have hps9 := pairs_tk (K9.tk D8) hps8
          refine ite2 (fun _ => ?_) (fun _ => ?_)
          · refine ⟨.int _, rfl, _, hB9, by rw [List.length_map]; exact small1000 (by omega), bs ++ [(0 : Int) + (j : Nat)], by rw [upd_same, List.map_append]; rfl, by rw [List.length_append]; show bs.length + 1 ≤ _; omega, by rw [upd_ne (Ne.symm BY)]; exact hY9, pairs_tk (tk_lst hB9) hps9, by rw [upd_ne (Ne.symm BZ)]; exact hZ9, D9.mut Bd.1 Bd.2, (K8.trans K9).mut nB0⟩
          · exact ⟨bs, hB9, by omega, hY9, hps9, hZ9, D9, K8.trans K9⟩
        · rintro H8 ⟨bs, hB, lb, hY8, hps8, hZ8, D8, K8⟩
          exact ⟨_, _, B, bs, rfl, hB, by omega, Bd, hY8, hps8, hZ8, D8, K8⟩
      · exact ⟨_, _, B0, [], rfl, K7 _ _ B0d.1 B0d.2 hB6, by decide, B0d, hY7, hps7, hZ7, D7, K67⟩
    clear hY hps hZ D5 K5 nB0 s6 B0d y5 y6
    rintro σ' H6 ⟨y5, y6, B, bs, rfl, hB, lb, Bd, hY, hps, hZ, D6, K6⟩
    refine ⟨Nat.zero_le _, fun T nT => ?_⟩
    have Td := D6.ned nT
    have TY : T ≠ Y := fun z => by rw [z, hY] at nT; cases nT
    have nT0 := K6.free nT Td.1 Td.2
    have s7 := same_new (o := .lst []) nT
    refine ⟨.ref Y, rfl, Y, ps, rfl, SqL.of (s7 _ _ hY), ?_⟩
    refine for_it (walk_enum (xs := ps)) (fun j σ' H' => ∃ (y5 y6 y9 : Option V) (us : List V) (ts : List Tie), σ' = [some (.ref d), some (.int n), some (.ref Z), none, some (.ref Y), y5, y6, some (.ref B), some (.ref T), y9] ∧ H' T = some (.lst us) ∧ Paired (TieV H') us ts ∧ (∀ t ∈ ts, TieOk n t) ∧ ts.length = j ∧ Same H6 H') ⟨y5, y6, none, [], [], rfl, upd_same, .nil, fun t ht => (by cases ht), rfl, s7⟩ (fun j σ' H' _ h => by
      obtain ⟨_, _, _, _, _, _, _, _, _, _, h⟩ := h
      exact SqL.of (h _ _ hY)) ?_ ?_
    · rintro j x σ' H7 H8 hj ⟨y5, y6, y9, us, ts, rfl, hT, hus, okt, lt, s7⟩ ⟨T1, x1, y, rfl, nT1, rfl, e1, e2⟩
      obtain rfl : V.int (j : Nat) = x1 := Option.some.inj e1
      obtain ⟨pq, eq, a, rfl, ha⟩ := Paired.at hps e2
      obtain ⟨o1, o2, o3, o4, o5⟩ := okq pq (List.mem_of_getElem? eq)
      have jl := (List.getElem?_eq_some_iff.mp eq).1
      have lus := Paired.length hus
      have s8 := s7.trans (same_new (o := .tup [.int (j : Nat), .ref a]) nT1)
      have hT8 := same_new (o := .tup [.int (j : Nat), .ref a]) nT1 _ _ hT
      have hus8 := ties_tk (Same.tk (same_new (o := .tup [.int (j : Nat), .ref a]) nT1)) hus
      have hT1 := upd_same (H := H7) (a := T1) (o := .tup [.int (j : Nat), .ref a])
      generalize upd H7 T1 (.tup [.int (j : Nat), .ref a]) = H8 at s8 hT8 hus8 hT1
      refine ⟨T1, _, rfl, SqT.of hT1, rfl, _, _, rfl, _, _, rfl, ⟨a, _, rfl, SqT.of (s8 _ _ ha), rfl, _, _, rfl, _, _, rfl, rfl, ?_⟩⟩
      obtain ⟨x1, ex1⟩ := ints_lst (xs := sd) o1 (by omega)
      obtain ⟨x2, ex2⟩ := ints_lst (xs := sd) o3 (by omega)
      refine ⟨rfl, .ref T, rfl, .inl ⟨rfl, _, SqL.of hT8⟩, .int pq.1, rfl, .int pq.2, rfl, by show 2 ≤ sizeLine; decide, fun p np => ?_⟩
      have sp := same_new (o := .lst [V.str "friend", .str "foe"]) np
      have s9 := s8.trans sp
      have hT9 := sp _ _ hT8
      have hus9 := ties_tk (Same.tk sp) hus8
      have hp := upd_same (H := H8) (a := p) (o := .lst [V.str "friend", .str "foe"])
      generalize upd H8 p (.lst [V.str "friend", .str "foe"]) = H9 at sp s9 hT9 hus9 hp
      refine ⟨.ref Z, rfl, .int pq.1, rfl, Z, _, pq.1, _, rfl, rfl, SqL.of (s9 _ _ hZ), ex1, .ref Z, rfl, .int pq.2, rfl, Z, _, pq.2, _, rfl, rfl, SqL.of (s9 _ _ hZ), ex2, rfl, .int (j : Nat), rfl, .ref B, rfl, B, _, rfl, .inl (SqL.of (s9 _ _ hB)), rfl, flat_ints _, rfl, .inr ⟨_, rfl, p, _, _, _, rfl, rfl, SqL.of hp, pick2 _ _ _, by show 3 ≤ sizeLine; decide, fun b nb => ?_⟩⟩
      refine ⟨T, us, .ref b, rfl, rfl, same_new nb _ _ hT9, small1000 (by omega), ?_⟩
      refine ⟨_, _, _, us ++ [.ref b], _, rfl, upd_same, snoc_tie_if hT9 hus9 nb, fun t ht => ?_, by rw [List.length_append, lt]; rfl, Same.mut (s9.trans (same_new nb)) nT⟩
      rcases List.mem_append.mp ht with z | z
      · exact okt t z
      · rw [List.mem_singleton.mp z]
        exact ⟨o1, o2, o3, o4, o5⟩
    · rintro σ' H7 ⟨y5, y6, y9, us, ts, rfl, hT, hus, okt, lt, s7⟩
      refine ⟨.int n, rfl, .ref T, rfl, .ref B, rfl, by show 3 ≤ sizeLine; decide, fun a na => ?_⟩
      have sa := same_new (o := .tup [.int n, .ref T, .ref B]) na
      exact q a T B us n ts bs _ upd_same (sa _ _ hT) (ties_tk (Same.tk sa) hus) okt (by omega) n7 n30 (sa _ _ (s7 _ _ hB)) Td Bd ((D6.same s7).same sa) (K6.trans ((Same.kp s7).trans (Same.kp sa)))
end
/-! ### k40: asked, and refused -/
def FoundV (H : Hp) (way due : Int) (f : Addr) : Prop := ∃ xs, H f = some (.tup xs) ∧ (way = 0 → ∃ x, xs = [.int due, x])
def spAsked (Ps : List Addr) : Sp := fun vs H Q _ => ∃ (way : Int) (wv gv : V) (n : Nat) (ts : List Tie) (g : Int → Int), vs = [.int way, wv, gv] ∧ WebAt H wv n ts ∧ WebOk n ts ∧ Wts H gv (rng ts.length) g ∧ (∀ e ∈ rng ts.length, 1 ≤ g e) ∧ Tabs Ps H ∧
  ((∀ P ∈ partsTo ts n n, oddF ts P = true → P.length ≤ 8) → ∀ r f H' zs, Kt Ps H H' → H' r = some (.tup [.ref f, .non]) → Paired (fun P v => LeastV ts g (tiesIn ts P) v) (partsTo ts n n) zs → FoundV H' way zs.sum f → Q (.ref r) H') ∧ (Great ts n → ∀ r k H', Kt Ps H H' → H' r = some (.tup [.non, .ref k]) → H' k = some (.tup [.bl true, .bl true, .bl false]) → Q (.ref r) H')
theorem small_least {ts : List Tie} {n : Nat} {g : Int → Int} (gp : ∀ e ∈ rng ts.length, 1 ≤ g e) (ok : ∀ t ∈ ts, TieOk n t) : ∀ Ps : List (List Int), (∀ P ∈ Ps, P ∈ partsTo ts n n) → ∃ zs, Paired (fun P v => LeastV ts g (tiesIn ts P) v) Ps zs
  | [], _ => ⟨[], .nil⟩
  | P :: Ps, h => by
    obtain ⟨zs, hz⟩ := small_least gp ok Ps fun R hR => h R (List.mem_cons_of_mem _ hR)
    have nn : ∀ c, 0 ≤ sumW g (badF ts c (tiesIn ts P)) := fun c => by
      have := sumW_nonneg (g := g) (es := badF ts c (tiesIn ts P)) fun e he => gp e (mem_rng.mpr (tiesIn_mem.mp (List.mem_filter.mp he).1).1)
      omega
    obtain ⟨c, hc⟩ : ∃ c, ∀ d, sumW g (badF ts c (tiesIn ts P)) ≤ sumW g (badF ts d (tiesIn ts P)) := by
      have key : ∀ k : Nat, ∀ c, sumW g (badF ts c (tiesIn ts P)) ≤ k → ∃ c, ∀ d, sumW g (badF ts c (tiesIn ts P)) ≤ sumW g (badF ts d (tiesIn ts P)) := by
        intro k
        induction k with
        | zero =>
          intro c hk
          exact ⟨c, fun d => by have := nn d; omega⟩
        | succ k ih =>
          intro c hk
          by_cases h : ∃ d, sumW g (badF ts d (tiesIn ts P)) ≤ k
          · obtain ⟨d, hd⟩ := h
            exact ih d hd
          · refine ⟨c, fun d => ?_⟩
            have : ¬ sumW g (badF ts d (tiesIn ts P)) ≤ k := fun z => h ⟨d, z⟩
            omega
      exact key (sumW g (badF ts (fun _ => false) (tiesIn ts P))).toNat (fun _ => false) (by have := nn fun _ => false; omega)
    exact ⟨_ :: zs, .cons ⟨⟨c, rfl⟩, hc⟩ hz⟩
section
variable {P : Program} {w : World} {K : PySem.W.Frag} {mg : Str → Option Value} {base : Heap}
set_option maxHeartbeats 8000000 in
theorem ok_l_asked {f : Addr} {fd : FuncData} {Ps : List Addr} {D W C1 C2 C3 C4 C5 : Addr} (F : Fun K "_law_asked" "_law_asked" s_l_asked f fd) (M : Free mg) (mve : mg "ValueError" = none) (T : RefT K mg "TooMany" D W) (t0 : KitT K mg D "TooMany" D true) (t1 : KitT K mg D "NoFrame" C1 false) (t2 : KitT K mg D "NoRow" C2 false) (t3 : KitT K mg D "NoText" C3 false) (t4 : KitT K mg D "NoTie" C4 false) (t5 : KitT K mg D "NotFlat" C5 false) (t6 : PySem.W.kitOne K (.ref D) (.type "ValueError") = some true)
    (D_least_mend : DfX P w K mg base 7 "least_mend" ["web", "weights"] (spLeastMendX Ps D)) (D_paper_of : DfX P w K mg base 13 "paper_of" ["web", "weights"] (spPaperOfX Ps D)) : FnOk P w K mg base CX0 14 f fd ["_law_way", "_law_web", "_law_weights"] (spAsked Ps) := by
  obtain ⟨f1, fd1, G1, g1, k1, b1⟩ := D_least_mend
  obtain ⟨f2, fd2, G2, g2, k2, b2⟩ := D_paper_of
  refine F.ok sc_l_asked (fun vs H Q E h => ?_) (fun cdv A outer s H vs Q E hr h => ?_)
  · obtain ⟨way, wv, gv, n, ts, g, rfl, _⟩ := h
    rfl
  · obtain ⟨way, wv, gv, n, ts, g, rfl, hW, ok, hw, gp, hT, q, qe⟩ := h
    refine ⟨_, (pss_cons (ps_set (i := 3) sc_l_asked.nd rfl (.inl rfl) pe_non)
      (pss_cons (ps_set (i := 4) sc_l_asked.nd rfl (.inl rfl) pe_non)
      (pss_cons (ps_try_as (i := 5) (tb := fun W => tIfS (tTest (tOp rEq (tVar 0) (tC (.int 0)))) (tAsg (tCallS (spLeastMendX Ps D) (WE W) (tCons (tVar 1) (tCons (tVar 2) tNil))) (gName 3)) (tAsg (tCallS (spPaperOfX Ps D) (WE W) (tCons (tVar 1) (tCons (tVar 2) tNil))) (gName 3)))
          (ts := fun a cls d => tSeq (tAsg (tCB (rIsET K a cls d) (tCons (tVar 5) (tCons (tTup (tCons (tC (.ref C1)) (tCons (tC (.ref C2)) (tCons (tC (.ref C3)) (tCons (tC (.ref C4)) (tCons (tC (.ref C5)) tNil)))))) tNil))) (gName 6))
            (tAsg (tTup (tCons (tCB (rIsX K a cls d) (tCons (tVar 5) (tCons (tC (.ref D)) tNil))) (tCons (tCB (rIsX K a cls d) (tCons (tVar 5) (tCons (tC (.ty "ValueError")) tNil))) (tCons (tVar 6) tNil)))) (gName 4)))
          (Wout := fun _ _ _ _ => False) rfl rfl sc_l_asked.nd rfl rfl ⟨rfl, by decide, .inl T.gW⟩ takes0
          (fun W pn xe tk _ => pss_one (ps_if (by exact (pt_cmpR op_eq (pv 0) pe_int (nomark _))) (pss_one (ps_set (i := 3) sc_l_asked.nd rfl (.inl rfl) (by exact (pe_callS G1 (hr.mono (by decide)) rfl g1 k1 b1 (fun σ => passAt tk σ) (by exact (pa_cons (pv 1) (pa_cons (pv 2) pa_nil))))))) (pss_one (ps_set (i := 3) sc_l_asked.nd rfl (.inl rfl) (by exact (pe_callS G2 hr rfl g2 k2 b2 (fun σ => passAt tk σ) (by exact (pa_cons (pv 1) (pa_cons (pv 2) pa_nil)))))))))
          (fun a oe cls d pn hz hf => pss_cons (ps_set (i := 6) sc_l_asked.nd rfl (.inl rfl) (by exact (pe_callB (call_isET hz hf) (by rfl) M.isinstance (by decide +kernel) (pa_cons (pv 5) (pa_cons (pe_tup (pa_cons (pe_glob rfl t1.g rfl) (pa_cons (pe_glob rfl t2.g rfl) (pa_cons (pe_glob rfl t3.g rfl) (pa_cons (pe_glob rfl t4.g rfl) (pa_cons (pe_glob rfl t5.g rfl) pa_nil)))))) pa_nil)))))
            (pss_one (ps_set (i := 4) sc_l_asked.nd rfl (.inl rfl) (by exact (pe_tup (pa_cons (pe_callB (call_isX hz hf) (by rfl) M.isinstance (by decide +kernel) (pa_cons (pv 5) (pa_cons (pe_glob rfl t0.g rfl) pa_nil))) (pa_cons (pe_callB (call_isX hz hf) (by rfl) M.isinstance (by decide +kernel) (pa_cons (pv 5) (pa_cons (pe_bltn (v := .ty "ValueError") rfl mve (by decide +kernel) rfl) pa_nil))) (pa_cons (pv 6) pa_nil))))))))
          )
      (pss_one (ps_ret (pe_tup (pa_cons (pv 3) (pa_cons (pv 4) pa_nil)))))))), ?_⟩
    have cv : ∀ C : Addr, ∀ u, RelV (.ref C) u → u = Value.ref C := fun C u h => h
    have out : ∀ (f r : Addr) (xs : List V) (H1 : Hp) (zs : List Int), (∀ P ∈ partsTo ts n n, oddF ts P = true → P.length ≤ 8) → Kt Ps H H1 → H1 f = some (.tup xs) → (way = 0 → ∃ x, xs = [.int zs.sum, x]) → Paired (fun P v => LeastV ts g (tiesIn ts P) v) (partsTo ts n n) zs → H1 r = none → Q (.ref r) (upd H1 r (.tup [.ref f, .non])) := fun f r xs H1 zs b8 k1 hf hx hz nr => by
      have sr := same_new (o := .tup [.ref f, .non]) nr
      exact q b8 r f _ zs (k1.trans (Kt.same k1.tab sr)) upd_same hz ⟨xs, sr _ _ hf, hx⟩
    have kinds : PySem.W.kitAny K (.ref D) [.ref C1, .ref C2, .ref C3, .ref C4, .ref C5] = some false := by
      unfold PySem.W.kitAny PySem.W.kitAny PySem.W.kitAny PySem.W.kitAny PySem.W.kitAny PySem.W.kitAny
      rw [t1.k, t2.k, t3.k, t4.k, t5.k]
    have refused : ∀ (H1 : Hp), Great ts n → Kt Ps H H1 → ∀ (x tp : Addr), H1 tp = none → ∀ k, (upd H1 tp (.tup [.ref C1, .ref C2, .ref C3, .ref C4, .ref C5])) k = none → ∀ r, (upd (upd H1 tp (.tup [.ref C1, .ref C2, .ref C3, .ref C4, .ref C5])) k (.tup [.bl true, .bl true, .bl false])) r = none → Q (.ref r) (upd (upd (upd H1 tp (.tup [.ref C1, .ref C2, .ref C3, .ref C4, .ref C5])) k (.tup [.bl true, .bl true, .bl false])) r (.tup [.non, .ref k])) := fun H1 hg k1 x tp ntp k nk r nr =>
      qe hg r k _ (k1.trans (Kt.same k1.tab (((same_new ntp).trans (same_new nk)).trans (same_new nr)))) upd_same (same_new nr _ _ upd_same)
    have caught : ∀ (H1 : Hp), Great ts n → Kt Ps H H1 → True := fun _ _ _ => trivial
    refine ⟨.int way, rfl, rfl, _, rfl, ?_⟩
    refine ite2 (fun h0 => ?_) (fun h0 => ?_)
    · refine ⟨wv, rfl, gv, rfl, wv, gv, n, ts, g, rfl, hW, ok, hw, gp, hT, fun b8 v c xs H1 kk told wl => ?_, fun hg H1 kk => ?_⟩
      · obtain ⟨a, b, rfl, ha, hb⟩ := wl
        obtain ⟨zs, hz, ez⟩ : ∃ zs, Paired (fun P v => LeastV ts g (tiesIn ts P) v) (partsTo ts n n) zs ∧ sumW g (badF ts c (rng ts.length)) = zs.sum := by
          refine ⟨xs.map (·.1), ?_, told.sum.symm⟩
          have go : ∀ {Ps : List (List Int)} {xs : List WL}, Paired (fun P x => LexMin ts g (tiesIn ts P) x) Ps xs → Paired (fun P v => LeastV ts g (tiesIn ts P) v) Ps (xs.map (·.1)) := by
            intro Ps xs h
            induction h with
            | nil => exact .nil
            | cons h _ ih => exact .cons h.val ih
          exact go told.lex
        refine ⟨.ref a, rfl, .non, rfl, by show 2 ≤ sizeLine; decide, fun r nr => ?_⟩
        exact out a r _ H1 zs b8 kk ha (fun _ => ⟨.ref b, by rw [← ez]⟩) hz nr
      · refine ⟨true, T.web, fun _ x nx' => ?_, fun z => Bool.noConfusion z⟩
        refine ⟨.ref x, rfl, by show 5 ≤ sizeLine; decide, fun tp ntp => ?_⟩
        refine ⟨D, tp, _, _, false, T.ec, rfl, rfl, rfl, upd_same, .cons (.own C1) (.cons (.own C2) (.cons (.own C3) (.cons (.own C4) (.cons (.own C5) .nil)))), kinds, ?_⟩
        refine ⟨.ref x, rfl, D, T.ec, rfl, rfl, _, _, _, rfl, cv D, t0.k, .ref x, rfl, D, T.ec, rfl, rfl, _, _, _, rfl, fun u h => h, t6, .bl false, rfl, by show 3 ≤ sizeLine; decide, fun k nk => ?_⟩
        refine ⟨.non, rfl, .ref k, rfl, by show 2 ≤ sizeLine; decide, fun r nr => ?_⟩
        exact refused H1 hg kk x tp ntp k nk r nr
    · refine ⟨wv, rfl, gv, rfl, wv, gv, n, ts, g, rfl, hW, ok, hw, hT, fun b8 v H1 kk pv => ?_, fun hg H1 kk => ?_⟩
      · obtain ⟨a, r0, rows, rfl, ha, _⟩ := pv
        obtain ⟨zs, hz⟩ := small_least gp ok.ok (partsTo ts n n) fun P h => h
        refine ⟨.ref a, rfl, .non, rfl, by show 2 ≤ sizeLine; decide, fun r nr => ?_⟩
        exact out a r _ H1 zs b8 kk ha (fun h => absurd (decide_eq_true (by rw [h])) h0) hz nr
      · refine ⟨true, T.web, fun _ x nx' => ?_, fun z => Bool.noConfusion z⟩
        refine ⟨.ref x, rfl, by show 5 ≤ sizeLine; decide, fun tp ntp => ?_⟩
        refine ⟨D, tp, _, _, false, T.ec, rfl, rfl, rfl, upd_same, .cons (.own C1) (.cons (.own C2) (.cons (.own C3) (.cons (.own C4) (.cons (.own C5) .nil)))), kinds, ?_⟩
        refine ⟨.ref x, rfl, D, T.ec, rfl, rfl, _, _, _, rfl, cv D, t0.k, .ref x, rfl, D, T.ec, rfl, rfl, _, _, _, rfl, fun u h => h, t6, .bl false, rfl, by show 3 ≤ sizeLine; decide, fun k nk => ?_⟩
        refine ⟨.non, rfl, .ref k, rfl, by show 2 ≤ sizeLine; decide, fun r nr => ?_⟩
        exact refused H1 hg kk x tp ntp k nk r nr
end
def spRight40 (Ps : List Addr) : Sp := fun vs H Q _ => ∃ (wv gv : V) (n : Nat) (ts : List Tie), vs = [wv, gv] ∧ WebAt H wv n ts ∧ WebOk n ts ∧ (gv = .non ∨ ∃ (wa : Addr) (ws : List Int), gv = .ref wa ∧ H wa = some (.tup (ws.map V.int)) ∧ ws.length = ts.length ∧ ∀ x ∈ ws, (1 : Int) ≤ x) ∧ Tabs Ps H ∧ ∀ H', Kt Ps H H' → Q (.bl true) H'
section
variable {P : Program} {w : World} {K : PySem.W.Frag} {mg : Str → Option Value} {base : Heap}
set_option maxHeartbeats 8000000 in
theorem ok_l_right {f : Addr} {fd : FuncData} {Ps : List Addr} (F : Fun K "_law_right" "_law_right" s_l_right f fd) (M : Free mg) (D_l_least : Df P w K mg base 2 "_law_least" ["_law_many", "_law_ties_here", "_law_weights"] spLLeast40) (D_l_asked : Df P w K mg base 14 "_law_asked" ["_law_way", "_law_web", "_law_weights"] (spAsked Ps)) : FnOk P w K mg base CX0 15 f fd ["_law_web", "_law_weights"] (spRight40 Ps) := by
  obtain ⟨f_l_least, fd_l_least, G_l_least, g_l_least, k_l_least, b_l_least⟩ := D_l_least
  obtain ⟨f_l_asked, fd_l_asked, G_l_asked, g_l_asked, k_l_asked, b_l_asked⟩ := D_l_asked
  refine F.ok sc_l_right (fun vs H Q E h => ?_) (fun cdv A outer s H vs Q E hr h => ?_)
  · obtain ⟨wv, gv, n, ts, rfl, _⟩ := h
    rfl
  · obtain ⟨wv, gv, n, ts, rfl, hW, ok, hgv, hT, q⟩ := h
    refine ⟨_, (pss_cons (ps_set (i := 2) sc_l_right.nd rfl (.inl rfl) (pv 1))
      (Evl.pss_cut (ps_if (pt_cmpR op_isN (pv 1) pe_non (nomark _))
        (pss_one (ps_set (i := 2) sc_l_right.nd rfl (.inl rfl) (pe_op op_repZ (pe_tup (pa_cons pe_int pa_nil)) (pe_callB call_len_seq (by rfl) M.len PySem.boot_len (pa_cons (pe_ix ix_tup (pv 0) pe_int (fun _ _ => rfl)) pa_nil)))))
        pss_nil)
      (pss_cons (ps_set (i := 3) sc_l_right.nd rfl (.inl rfl) (pe_call G_l_least (hr.mono (by decide)) (by rfl) g_l_least k_l_least b_l_least .nil pass0 (pa_cons (pe_ix ix_tup (pv 0) pe_int (fun _ _ => rfl)) (pa_cons (pe_ix ix_tup (pv 0) pe_int (fun _ _ => rfl)) (pa_cons (pv 2) pa_nil)))))
      (pss_cons (ps_for PassesOwn.never rfl (pi_tup (pe_tup (pa_cons pe_int (pa_cons pe_int (pa_cons pe_int pa_nil))))) (pg_name (i := 4) sc_l_right.nd rfl (.inl rfl))
        (pss_cons (ps_asg (pe_call G_l_asked (hr.mono (by decide)) (by rfl) g_l_asked k_l_asked b_l_asked .nil pass0 (pa_cons (pv 4) (pa_cons (pv 0) (pa_cons (pv 1) pa_nil)))) (pg_tup rfl (pgs_cons (pg_name (i := 5) sc_l_right.nd rfl (.inl rfl)) (pgs_cons (pg_name (i := 6) sc_l_right.nd rfl (.inl rfl)) pgs_nil))))
        (pss_cons (ps_if (PW.pt (pw_and (pt_cmpR op_isN (pv 3) pe_non (nomark _)) (pw_and1 (PW.pt (pw_or (pt_cmpR op_notN (pv 5) pe_non (nomark _)) (pw_or1 (pt_cmpR (op_neD hr.units) (pv 6) (pe_tup (pa_cons pe_bl (pa_cons pe_bl (pa_cons pe_bl pa_nil)))) (nomark _))))))))
          (pss_one (ps_ret pe_bl))
          pss_nil)
        (pss_cons (ps_if (PW.pt (pw_and (pt_cmpR op_notN (pv 3) pe_non (nomark _)) (pw_and1 (PW.pt (pw_or (pt_cmpR op_notN (pv 6) pe_non (nomark _)) (pw_or1 (pt_not (pt_val (pe_callB call_isi (by rfl) M.isinstance (by decide +kernel) (pa_cons (pv 5) (pa_cons (pe_bltn (v := .ty "tuple") (by rfl) M.tuple (by decide +kernel) rfl) pa_nil)))))))))))
          (pss_one (ps_ret pe_bl))
          pss_nil)
        (pss_one (ps_if (PW.pt (pw_and (pt_cmpR op_notN (pv 3) pe_non (nomark _)) (pw_and (pt_cmpR op_eq (pv 4) pe_int (nomark _)) (pw_and1 (PW.pt (pw_or (pt_val (pe_callB call_isi (by rfl) M.isinstance (by decide +kernel) (pa_cons (pe_ix ix_tup (pv 5) pe_int (fun _ _ => rfl)) (pa_cons (pe_bltn (v := .ty "bool") (by rfl) M.bool (by decide +kernel) rfl) pa_nil)))) (pw_or1 (pt_cmpR op_ne (pe_ix ix_tup (pv 5) pe_int (fun _ _ => rfl)) (pv 3) (nomark _)))))))))
          (pss_one (ps_ret pe_bl))
          pss_nil))))))
      (pss_one (ps_ret pe_bl)))))), ?_⟩
    have few := ok.few
    refine ⟨gv, rfl, ?_⟩
    refine ⟨fun σ' H' => ∃ (wa : Addr) (ws : List Int), σ' = [some wv, some gv, some (.ref wa), none, none, none, none] ∧ H' wa = some (.tup (ws.map V.int)) ∧ ws.length = ts.length ∧ (∀ x ∈ ws, (1 : Int) ≤ x) ∧ Wts H' gv (rng ts.length) (gW ws) ∧ Kt Ps H H', ?_, ?_⟩
    · rcases hgv with rfl | ⟨wa, ws, rfl, hwa, lw, wp⟩
      · refine ⟨.non, rfl, rfl, _, rfl, ite2 (fun _ => ?_) (fun z => absurd (decide_eq_true rfl) z)⟩
        obtain ⟨W, tt, us, rfl, hWt, htt, hus⟩ := id hW
        have lus : us.length = ts.length := Paired.length hus
        have opos : ∀ x ∈ List.replicate ts.length (1 : Int), (1 : Int) ≤ x := fun x hx => by
          rw [(List.mem_replicate.mp hx).2]
          exact Int.le_refl _
        have lo : (List.replicate ts.length (1 : Int)).length = ts.length := List.length_replicate
        have wnon : ∀ H, Wts H .non (rng ts.length) (gW (List.replicate ts.length 1)) := fun H => .inl ⟨rfl, fun x hx => gW_ones hx⟩
        refine ⟨by show 1 ≤ sizeLine; decide, fun p np => ?_⟩
        have s8 := same_new (o := .tup [V.int 1]) np
        refine ⟨.ref W, rfl, W, _, 1, .ref tt, rfl, rfl, SqT.of (s8 _ _ hWt), rfl, tt, us, rfl, .inr (SqT.of (s8 _ _ htt)), p, (us.length : Nat), [.int 1], rfl, rfl, SqT.of upd_same, by simp, by omega, by omega, by decide, fun e => ?_, fun r nr => ?_⟩
        · refine ⟨p, _, rfl, ?_, lo, opos, wnon _, Kt.same hT s8⟩
          rw [upd_same, show ts.length = 1 by omega]
          rfl
        · have s9 := s8.trans (same_new (o := .tup (List.replicate ((us.length : Nat) : Int).toNat [V.int 1]).flatten) nr)
          refine ⟨r, _, rfl, ?_, lo, opos, wnon _, Kt.same hT s9⟩
          rw [upd_same, Int.toNat_natCast, lus]
          have e : ∀ k : Nat, (List.replicate k [V.int 1]).flatten = (List.replicate k (1 : Int)).map V.int := fun k => by
            induction k with
            | zero => rfl
            | succ k ih => rw [List.replicate_succ, List.flatten_cons, ih, List.replicate_succ, List.map_cons]; rfl
          rw [e]
      · refine ⟨.ref wa, rfl, rfl, _, rfl, ite2 (fun z => absurd (of_decide_eq_true z) (fun z => by cases z)) (fun _ => ?_)⟩
        exact ⟨wa, ws, rfl, hwa, lw, wp, wts_tup hwa lw, Kt.refl hT⟩
    rintro σ' H1 ⟨wa, ws, rfl, hwa, lw, wp, hw, kt1⟩
    have hW1 := hW.tk (kt1.tk hT)
    have T1 : Tabs Ps H1 := kt1.tab
    obtain ⟨W, tt, us, rfl, hWt, htt, hus⟩ := id hW1
    have gp : ∀ e ∈ rng ts.length, 1 ≤ gW ws e := fun e he => by
      have := mem_rng.mp he
      exact gW_pos wp (by omega) (by omega)
    have t1 : PySem.W.kitOne K (.type "tuple") (.type "tuple") = some true := kit_ty (by decide +kernel)
    have t2 : PySem.W.kitOne K (.type "int") (.type "bool") = some false := kit_ty (by decide +kernel)
    refine ⟨.ref W, rfl, W, _, 0, .int n, rfl, rfl, SqT.of hWt, rfl, .ref W, rfl, W, _, 1, .ref tt, rfl, rfl, SqT.of hWt, rfl, .ref wa, rfl, n, tt, wa, us, ts, ws, rfl, htt, hus, ok, hwa, lw, wp, fun b8 zs H2 s2 hzs => ?_, fun hg H2 s2 => ?_⟩
    · refine ⟨by show 3 ≤ sizeLine; decide, fun tp ntp => ?_⟩
      have s3 := s2.trans (same_new (o := .tup [V.int 0, .int 1, .int 0]) ntp)
      have htp := upd_same (H := H2) (a := tp) (o := .tup [V.int 0, .int 1, .int 0])
      generalize upd H2 tp (.tup [V.int 0, .int 1, .int 0]) = H3 at s3 htp
      refine ⟨tp, rfl, ⟨_, SqT.of htp⟩, ?_⟩
      have k3 := kt1.trans (Kt.same T1 s3)
      refine for_tup (xs := [V.int 0, .int 1, .int 0]) (fun i σ' H' => ∃ (y4 y5 y6 : Option V), σ' = [some (.ref W), some gv, some (.ref wa), some (.int zs.sum), y4, y5, y6] ∧ Kt Ps H3 H' ∧ Tk H3 H') ⟨none, none, none, rfl, Kt.refl k3.tab, Same.tk (Same.refl _)⟩ (fun i σ' H' _ h => by
        obtain ⟨_, _, _, _, _, h⟩ := h
        exact SqT.of (h _ _ htp)) ?_ ?_
      · rintro i x σ' H4 ex ⟨y4, y5, y6, rfl, k4, tk4⟩
        obtain ⟨way, rfl⟩ : ∃ way, x = .int way := by
          have := List.mem_of_getElem? ex
          simp only [List.mem_cons, List.not_mem_nil, or_false] at this
          rcases this with h | h | h <;> exact ⟨_, h⟩
        have k14 := (Kt.same T1 s3).trans k4
        have tk14 := k14.tk T1
        refine ⟨.int way, rfl, .ref W, rfl, gv, rfl, way, .ref W, gv, n, ts, gW ws, rfl, hW1.tk tk14, ok, hw.tk tk14, gp, k14.tab, fun _ r f H5 zs2 k5 hr5 hz2 hf => ?_, fun hg => absurd hg fun ⟨P, h1, h2, h3⟩ => by have := b8 P h1 h2; omega⟩
        obtain ⟨xs, hfx, hx⟩ := hf
        have ez : zs2.sum = zs.sum := by
          have one : ∀ {Ps : List (List Int)} {as bs : List Int}, Paired (fun P v => LeastV ts (gW ws) (tiesIn ts P) v) Ps as → Paired (fun P v => LeastV ts (gW ws) (tiesIn ts P) v) Ps bs → as = bs := by
            intro Ps as bs h k
            induction h generalizing bs with
            | nil => cases k; rfl
            | cons h t ih =>
              cases k with
              | cons k u => rw [h.one k, ih u]
          rw [one hz2 hzs]
        refine ⟨r, _, rfl, SqT.of hr5, rfl, _, _, rfl, _, _, rfl, rfl, ?_⟩
        refine ⟨.int zs.sum, rfl, rfl, _, rfl, ?_⟩
        refine ⟨.int zs.sum, rfl, rfl, _, rfl, .non, rfl, rfl, _, rfl, .ref f, rfl, .ref f, _, _, _, _, rfl, .ty "tuple", .base (.tup hfx), t1, _, rfl, ?_⟩
        have fin : ∃ (y4 y5 y6 : Option V), [some (V.ref W), some gv, some (.ref wa), some (.int zs.sum), some (.int way), some (.ref f), some .non] = [some (.ref W), some gv, some (.ref wa), some (.int zs.sum), y4, y5, y6] ∧ Kt Ps H3 H5 ∧ Tk H3 H5 := ⟨_, _, _, rfl, k4.trans k5, (k4.trans k5).tk k3.tab⟩
        refine ⟨.int zs.sum, rfl, rfl, _, rfl, .int way, rfl, rfl, _, rfl, ?_⟩
        by_cases h0 : way = 0
        · obtain ⟨x, rfl⟩ := hx h0
          rw [dec_intF, decide_eq_true h0]
          refine ⟨.ref f, rfl, f, _, 0, .int zs2.sum, rfl, rfl, SqT.of hfx, rfl, .int zs2.sum, _, _, _, _, rfl, .ty "bool", .base (.int _), t2, _, rfl, ?_⟩
          refine ⟨.ref f, rfl, f, _, 0, .int zs2.sum, rfl, rfl, SqT.of hfx, rfl, .int zs.sum, rfl, rfl, _, rfl, ?_⟩
          rw [ez, decide_eq_true (show V.int zs.sum = V.int zs.sum from rfl)]
          exact fin
        · rw [dec_intF, decide_eq_false h0]
          exact fin
      · rintro σ' H4 ⟨y4, y5, y6, rfl, k4, tk4⟩
        exact q H4 (k3.trans k4)
    · refine ⟨by show 3 ≤ sizeLine; decide, fun tp ntp => ?_⟩
      have s3 := s2.trans (same_new (o := .tup [V.int 0, .int 1, .int 0]) ntp)
      have htp := upd_same (H := H2) (a := tp) (o := .tup [V.int 0, .int 1, .int 0])
      generalize upd H2 tp (.tup [V.int 0, .int 1, .int 0]) = H3 at s3 htp
      refine ⟨tp, rfl, ⟨_, SqT.of htp⟩, ?_⟩
      have k3 := kt1.trans (Kt.same T1 s3)
      refine for_tup (xs := [V.int 0, .int 1, .int 0]) (fun i σ' H' => ∃ (y4 y5 y6 : Option V), σ' = [some (.ref W), some gv, some (.ref wa), some .non, y4, y5, y6] ∧ Kt Ps H3 H' ∧ Tk H3 H') ⟨none, none, none, rfl, Kt.refl k3.tab, Same.tk (Same.refl _)⟩ (fun i σ' H' _ h => by
        obtain ⟨_, _, _, _, _, h⟩ := h
        exact SqT.of (h _ _ htp)) ?_ ?_
      · rintro i x σ' H4 ex ⟨y4, y5, y6, rfl, k4, tk4⟩
        obtain ⟨way, rfl⟩ : ∃ way, x = .int way := by
          have := List.mem_of_getElem? ex
          simp only [List.mem_cons, List.not_mem_nil, or_false] at this
          rcases this with h | h | h <;> exact ⟨_, h⟩
        have k14 := (Kt.same T1 s3).trans k4
        have tk14 := k14.tk T1
        refine ⟨.int way, rfl, .ref W, rfl, gv, rfl, way, .ref W, gv, n, ts, gW ws, rfl, hW1.tk tk14, ok, hw.tk tk14, gp, k14.tab, fun b8 => absurd hg fun ⟨P, h1, h2, h3⟩ => (by have := b8 P h1 h2; omega), fun _ r k H5 k5 hr5 hk => ?_⟩
        refine ⟨r, _, rfl, SqT.of hr5, rfl, _, _, rfl, _, _, rfl, rfl, ?_⟩
        refine ⟨.non, rfl, rfl, _, rfl, .non, rfl, rfl, _, rfl, .ref k, rfl, by show 3 ≤ sizeLine; decide, fun l nl => ?_⟩
        refine ⟨.tuple [.bool true, .bool true, .bool false], .tuple [.bool true, .bool true, .bool false], .tup (SqT.of (same_new nl _ _ hk)) (.cons (.bl true) (.cons (.bl true) (.cons (.bl false) .nil))), .tup (SqT.of upd_same) (.cons (.bl true) (.cons (.bl true) (.cons (.bl false) .nil))), by decide +kernel, by decide +kernel, _, rfl, ?_⟩
        refine ⟨.non, rfl, rfl, _, rfl, ?_⟩
        refine ⟨.non, rfl, rfl, _, rfl, ?_⟩
        have kl := Kt.same k5.tab (same_new (o := .tup [.bl true, .bl true, .bl false]) nl)
        exact ⟨_, _, _, rfl, k4.trans (k5.trans kl), (k4.trans (k5.trans kl)).tk k3.tab⟩
      · rintro σ' H4 ⟨y4, y5, y6, rfl, k4, tk4⟩
        exact q H4 (k3.trans k4)
end
/-! ### k40: the law -/
theorem os_at40 {os : List Int} {n : Nat} (h : os.Perm (rng n)) {p : Int} (h0 : 0 ≤ p) (h1 : p < n) : atI (os.map V.int) p = some (.int (os.getD p.toNat 0)) := by
  have l : os.length = n := by rw [h.length_eq, rng_length]
  refine atI_of' h0 ?_
  rw [List.getElem?_map, List.getD_eq_getElem?_getD, List.getElem?_eq_getElem (by omega)]
  rfl
theorem ren_ok {os : List Int} {n : Nat} (pm : os.Perm (rng n)) {t : Tie} (o : TieOk n t) : TieOk n (ren os t) := by
  have los : os.length = n := by rw [pm.length_eq, rng_length]
  have nd : os.Nodup := pm.nodup_iff.mpr ((rng_rising n).imp fun {a b} h => by omega)
  have at1 : ∀ p : Int, 0 ≤ p → p < n → ∃ h : p.toNat < os.length, os.getD p.toNat 0 = os[p.toNat] := fun p h0 h1 => ⟨by omega, by rw [List.getD_eq_getElem?_getD, List.getElem?_eq_getElem (by omega)]; rfl⟩
  obtain ⟨l1, e1⟩ := at1 _ o.1 o.2.1
  obtain ⟨l2, e2⟩ := at1 _ o.2.2.1 o.2.2.2.1
  have m1 := mem_rng.mp (pm.mem_iff.mp (List.getElem_mem l1))
  have m2 := mem_rng.mp (pm.mem_iff.mp (List.getElem_mem l2))
  have ne : os[t.one.toNat] ≠ os[t.other.toNat] := fun z => by
    have := (List.getElem_inj nd).mp z
    have h5 := o.2.2.2.2
    have h6 := o.1
    have h7 := o.2.2.1
    omega
  unfold ren
  rw [e1, e2]
  exact ⟨m1.1, m1.2, m2.1, m2.2, ne⟩
theorem shf_ok {n s : Nat} {t : Tie} (o : TieOk s t) : TieOk ((n + s : Nat) : Int) (shf n t) := by
  obtain ⟨h1, h2, h3, h4, h5⟩ := o
  refine ⟨?_, ?_, ?_, ?_, ?_⟩
  · show (0 : Int) ≤ n + t.one; omega
  · show (n : Int) + t.one < ((n + s : Nat) : Int); omega
  · show (0 : Int) ≤ n + t.other; omega
  · show (n : Int) + t.other < ((n + s : Nat) : Int); omega
  · show (n : Int) + t.one ≠ n + t.other; omega
theorem tie_more {n s : Nat} {t : Tie} (o : TieOk n t) : TieOk ((n + s : Nat) : Int) t := by
  obtain ⟨h1, h2, h3, h4, h5⟩ := o
  exact ⟨h1, by omega, h3, by omega, h5⟩
theorem Tabs.lst {Ps : List Addr} {H : Hp} {L : Addr} {xs ys : List V} (t : Tabs Ps H) (hL : H L = some (.lst xs)) : Tabs Ps (upd H L (.lst ys)) := fun P hP => by
  obtain ⟨ps, e, x⟩ := t P hP
  exact ⟨ps, by rw [upd_ne (ne_of e hL (by intro z; cases z))]; exact e, x⟩
structure Part40 (H : Hp) (d c : Addr) (m : Nat) (v : V) (Lp : Addr) (us : List V) (ts : List Tie) : Prop where
  e : v = .ref Lp
  hL : H Lp = some (.lst us)
  hu : Paired (TieV H) us ts
  ok : ∀ t ∈ ts, TieOk m t
  few : ts.length ≤ 60
  ne : Lp ≠ d ∧ Lp ≠ c
structure St40 (Ps : List Addr) (H : Hp) (d c C R LL : Addr) (m : Nat) (os rs : List Int) (p1 p2 : V) : Prop where
  hC : H C = some (.lst (os.map V.int))
  hR : H R = some (.lst (rs.map V.int))
  hLL : H LL = some (.lst [p1, p2])
  Cd : C ≠ d ∧ C ≠ c
  Rd : R ≠ d ∧ R ≠ c
  Ld : LL ≠ d ∧ LL ≠ c
  q1 : ∃ Lp us ts, Part40 H d c m p1 Lp us ts
  q2 : ∃ Lp us ts, Part40 H d c m p2 Lp us ts
  D : Deck H d c
  T : Tabs Ps H
theorem Part40.kp {H H' : Hp} {d c : Addr} {m : Nat} {v : V} {Lp : Addr} {us : List V} {ts : List Tie} (h : Part40 H d c m v Lp us ts) (k : Kp d c H H') (D : Deck H d c) : Part40 H' d c m v Lp us ts := ⟨h.e, k _ _ h.ne.1 h.ne.2 h.hL, ties_tk (k.tk D) h.hu, h.ok, h.few, h.ne⟩
theorem St40.kp {Ps : List Addr} {H H' : Hp} {d c C R LL : Addr} {m : Nat} {os rs : List Int} {p1 p2 : V} (h : St40 Ps H d c C R LL m os rs p1 p2) (k : Kp d c H H') (D : Deck H' d c) : St40 Ps H' d c C R LL m os rs p1 p2 := by
  obtain ⟨L1, u1, t1, h1⟩ := h.q1
  obtain ⟨L2, u2, t2, h2⟩ := h.q2
  exact ⟨k _ _ h.Cd.1 h.Cd.2 h.hC, k _ _ h.Rd.1 h.Rd.2 h.hR, k _ _ h.Ld.1 h.Ld.2 h.hLL, h.Cd, h.Rd, h.Ld, ⟨_, _, _, h1.kp k h.D⟩, ⟨_, _, _, h2.kp k h.D⟩, D, h.T.kp k h.D⟩
theorem St40.kt {Ps : List Addr} {H H' : Hp} {d c C R LL : Addr} {m : Nat} {os rs : List Int} {p1 p2 : V} (h : St40 Ps H d c C R LL m os rs p1 p2) (k : Kt Ps H H') : St40 Ps H' d c C R LL m os rs p1 p2 := by
  obtain ⟨L1, u1, t1, h1⟩ := h.q1
  obtain ⟨L2, u2, t2, h2⟩ := h.q2
  exact ⟨k.lst h.T h.hC, k.lst h.T h.hR, k.lst h.T h.hLL, h.Cd, h.Rd, h.Ld, ⟨_, _, _, h1.e, k.lst h.T h1.hL, ties_tk (k.tk h.T) h1.hu, h1.ok, h1.few, h1.ne⟩, ⟨_, _, _, h2.e, k.lst h.T h2.hL, ties_tk (k.tk h.T) h2.hu, h2.ok, h2.few, h2.ne⟩, DckKt k h.T h.D, k.tab⟩
theorem paired_app40 {α β : Type} {F : α → β → Prop} : ∀ {xs : List α} {ys : List β} {xs' : List α} {ys' : List β}, Paired F xs ys → Paired F xs' ys' → Paired F (xs ++ xs') (ys ++ ys')
  | _, _, _, _, .nil, g => g
  | _, _, _, _, .cons h t, g => .cons h (paired_app40 t g)
section
variable {P : Program} {w : World} {K : PySem.W.Frag} {mg : Str → Option Value} {base : Heap}
set_option maxHeartbeats 8000000 in
theorem ok_law {f : Addr} {fd : FuncData} {Ps : List Addr} (F : Fun K "law" "law" s_law f fd) (M : Free mg) (m_enumerate : mg "enumerate" = none) (D_l_deck : Df P w K mg base 1 "_law_deck" ["_law_script"] (spDeck K)) (D_l_great : Df P w K mg base 2 "_law_great" ["_law_deck_here"] spGreat) (D_l_take : Df P w K mg base 1 "_law_take" ["_law_deck_here", "_law_many"] spDraw) (D_l_ties : Df P w K mg base 2 "_law_ties" ["_law_deck_here", "_law_many", "_law_most"] spLTies) (D_l_shuffled : Df P w K mg base 2 "_law_shuffled" ["_law_deck_here", "_law_many"] spShuf) (D_l_right : Df P w K mg base 15 "_law_right" ["_law_web", "_law_weights"] (spRight40 Ps)) : FnOk P w K mg base CX0 16 f fd ["_law_script"] (spLaw K Ps) := by
  obtain ⟨f_l_deck, fd_l_deck, G_l_deck, g_l_deck, k_l_deck, b_l_deck⟩ := D_l_deck
  obtain ⟨f_l_great, fd_l_great, G_l_great, g_l_great, k_l_great, b_l_great⟩ := D_l_great
  obtain ⟨f_l_take, fd_l_take, G_l_take, g_l_take, k_l_take, b_l_take⟩ := D_l_take
  obtain ⟨f_l_ties, fd_l_ties, G_l_ties, g_l_ties, k_l_ties, b_l_ties⟩ := D_l_ties
  obtain ⟨f_l_shuffled, fd_l_shuffled, G_l_shuffled, g_l_shuffled, k_l_shuffled, b_l_shuffled⟩ := D_l_shuffled
  obtain ⟨f_l_right, fd_l_right, G_l_right, g_l_right, k_l_right, b_l_right⟩ := D_l_right
  refine F.ok sc_law (fun vs H Q E h => ?_) (fun cdv A outer s H vs Q E hr h => ?_)
  · obtain ⟨a, ns, rfl, _⟩ := h
    rfl
  · obtain ⟨sc, ns, rfl, hS, hlen, hT, q⟩ := h
    refine ⟨_, (pss_cons (ps_set (i := 1) sc_law.nd rfl (.inr rfl) (pe_call G_l_deck (hr.mono (by decide)) (by rfl) g_l_deck k_l_deck b_l_deck .nil pass0 (pa_cons (pv 0) pa_nil)))
      (pss_cons (ps_for PassesOwn.never rfl (pi_range1 (by rfl) M.range (pa_cons pe_int pa_nil)) (pg_name (i := 2) sc_law.nd rfl (.inl rfl))
        (pss_cons (ps_asg (pe_call G_l_great (hr.mono (by decide)) (by rfl) g_l_great k_l_great b_l_great .nil pass0 (pa_cons (pv 1) pa_nil)) (pg_tup rfl (pgs_cons (pg_name (i := 3) sc_law.nd rfl (.inr rfl)) (pgs_cons (pg_name (i := 4) sc_law.nd rfl (.inl rfl)) (pgs_cons (pg_name (i := 5) sc_law.nd rfl (.inr rfl)) pgs_nil)))))
        (Evl.pss_cut (ps_set (i := 6) sc_law.nd rfl (.inl rfl) (pe_op op_add pe_int (pe_call G_l_take (hr.mono (by decide)) (by rfl) g_l_take k_l_take b_l_take .nil pass0 (pa_cons (pv 1) (pa_cons pe_int pa_nil)))))
        (pss_cons (ps_setLc (i := 7) (own := [("_law_one", 8), ("_law_other", 9), ("_law_kind", 10)]) (g := (gTup K 3 (gCons (gName 8) (gCons (gName 9) (gCons (gName 10) gNil))))) (tt := tYes) rfl sc_law.nd rfl rfl (sw_true rfl rfl rfl (by decide +kernel)) (pi_tup (pe_call G_l_ties (hr.mono (by decide)) (by rfl) g_l_ties k_l_ties b_l_ties .nil pass0 (pa_cons (pv 1) (pa_cons (pv 6) (pa_cons (pe_call G_l_take (hr.mono (by decide)) (by rfl) g_l_take k_l_take b_l_take .nil pass0 (pa_cons (pv 1) (pa_cons pe_int pa_nil))) pa_nil))))) (blkOk_by (N := N_law) (sc := defScope s_law) (own := [("_law_one", 8), ("_law_other", 9), ("_law_kind", 10)]) (by decide +kernel)) (fun _ _ _ _ _ => (pg_tup rfl (pgs_cons (pg_name (i := 8) sc_law.nd rfl (.inl rfl)) (pgs_cons (pg_name (i := 9) sc_law.nd rfl (.inl rfl)) (pgs_cons (pg_name (i := 10) sc_law.nd rfl (.inl rfl)) pgs_nil))))) (fun _ _ _ _ _ => pts_nil) (fun _ _ _ _ _ => (pe_tup (pa_cons (pe_op op_add (pv 3) (pv 8)) (pa_cons (pe_op op_add (pv 3) (pv 9)) (pa_cons (pv 10) pa_nil))))))
        (pss_cons (ps_set (i := 11) sc_law.nd rfl (.inr rfl) (pe_call G_l_shuffled (hr.mono (by decide)) (by rfl) g_l_shuffled k_l_shuffled b_l_shuffled .nil pass0 (pa_cons (pv 1) (pa_cons (pe_op op_add (pv 3) (pv 6)) pa_nil))))
        (pss_cons (ps_set (i := 12) sc_law.nd rfl (.inl rfl) (pe_call G_l_shuffled (hr.mono (by decide)) (by rfl) g_l_shuffled k_l_shuffled b_l_shuffled .nil pass0 (pa_cons (pv 1) (pa_cons (pe_op op_add (pe_callB call_len_seq (by rfl) M.len PySem.boot_len (pa_cons (pv 4) pa_nil)) (pe_callB call_len_seq (by rfl) M.len PySem.boot_len (pa_cons (pv 7) pa_nil))) pa_nil))))
        (pss_one (ps_for PassesOwn.never rfl (pi_list (pe_lst (pa_cons (pe_op op_cat (pv 4) (pv 7)) (pa_cons (pe_op op_cat (pe_lc (own := [("_law_k", 14), ("_law_tie", 15)]) (g := (gTup K 2 (gCons (gName 14) (gCons (gName 15) gNil)))) (te := tVar 15) rfl sc_law.nd (pi_enum (by rfl) m_enumerate (pa_cons (pv 4) pa_nil)) (blkOk_by (N := N_law) (sc := defScope s_law) (own := [("_law_k", 14), ("_law_tie", 15)]) (by decide +kernel)) (fun _ _ _ _ _ => (pg_tup rfl (pgs_cons (pg_name (i := 14) sc_law.nd rfl (.inl rfl)) (pgs_cons (pg_name (i := 15) sc_law.nd rfl (.inl rfl)) pgs_nil)))) (fun _ _ _ _ _ => (pts_one (pt_cmpR (r := rIn K true) op_notIn_seq (pv 14) (pv 5) rfl))) (fun _ _ _ _ _ => (pv 15))) (pv 7)) pa_nil)))) (pg_name (i := 13) sc_law.nd rfl (.inr rfl))
          (pss_cons (ps_setLc (i := 16) (own := [("_law_k", 14)]) (g := (gName 14)) rfl sc_law.nd rfl rfl (sw_true rfl rfl rfl (by decide +kernel)) (pi_list (pv 12)) (blkOk_by (N := N_law) (sc := defScope s_law) (own := [("_law_k", 14)]) (by decide +kernel)) (fun _ _ _ _ _ => (pg_name (i := 14) sc_law.nd rfl (.inl rfl))) (fun _ _ _ _ _ => (pts_one (pt_cmpR op_lt (pv 14) (pe_callB (r := rLen38 K) call_len_seq (by rfl) M.len PySem.boot_len (pa_cons (pv 13) pa_nil)) (nomark _)))) (fun _ _ _ _ _ => (pe_ix (r := rIxL K) ix_list (pv 13) (pv 14) (fun _ _ => rfl))))
          (pss_cons (ps_set (i := 17) sc_law.nd rfl (.inl rfl) (pe_tup (pa_cons (pe_op op_add (pv 3) (pv 6)) (pa_cons (pe_callTy call_tuple_of (by rfl) M.tuple (by decide +kernel) (pa_cons (pe_lc (own := [("_law_one", 8), ("_law_other", 9), ("_law_kind", 10)]) (g := (gTup K 3 (gCons (gName 8) (gCons (gName 9) (gCons (gName 10) gNil))))) (tt := tYes) rfl sc_law.nd (pi_list (pv 16)) (blkOk_by (N := N_law) (sc := defScope s_law) (own := [("_law_one", 8), ("_law_other", 9), ("_law_kind", 10)]) (by decide +kernel)) (fun _ _ _ _ _ => (pg_tup rfl (pgs_cons (pg_name (i := 8) sc_law.nd rfl (.inl rfl)) (pgs_cons (pg_name (i := 9) sc_law.nd rfl (.inl rfl)) (pgs_cons (pg_name (i := 10) sc_law.nd rfl (.inl rfl)) pgs_nil))))) (fun _ _ _ _ _ => pts_nil) (fun _ _ _ _ _ => (pe_tup (pa_cons (pe_ix (r := rIxL K) ix_list (pv 11) (pv 8) (fun _ _ => rfl)) (pa_cons (pe_ix (r := rIxL K) ix_list (pv 11) (pv 9) (fun _ _ => rfl)) (pa_cons (pv 10) pa_nil)))))) pa_nil)) pa_nil))))
          (Evl.pss_cut (ps_set (i := 18) sc_law.nd rfl (.inl rfl) (pe_ix ix_list (pe_lst (pa_cons pe_non (pa_cons (pe_callTy call_tuple_of (by rfl) M.tuple (by decide +kernel) (pa_cons (pe_lc (own := [("_law_tie", 15)]) (g := (gName 15)) (tt := tYes) rfl sc_law.nd (pi_list (pv 16)) (blkOk_by (N := N_law) (sc := defScope s_law) (own := [("_law_tie", 15)]) (by decide +kernel)) (fun _ _ _ _ _ => (pg_name (i := 15) sc_law.nd rfl (.inl rfl))) (fun _ _ _ _ _ => pts_nil) (fun _ _ _ _ _ => (pe_op op_add pe_int (pe_call G_l_take (hr.mono (by decide)) (by rfl) g_l_take k_l_take b_l_take .nil pass0 (pa_cons (pv 1) (pa_cons pe_int pa_nil)))))) pa_nil)) pa_nil))) (pe_call G_l_take (hr.mono (by decide)) (by rfl) g_l_take k_l_take b_l_take .nil pass0 (pa_cons (pv 1) (pa_cons pe_int pa_nil))) (fun _ _ => rfl)))
          (pss_one (ps_if (pt_not (pt_val (pe_call G_l_right (hr.mono (by decide)) (by rfl) g_l_right k_l_right b_l_right .nil pass0 (pa_cons (pv 17) (pa_cons (pv 18) pa_nil)))))
            (pss_one (ps_ret pe_bl))
            pss_nil)))))))))))))
      (pss_one (ps_ret pe_bl)))), ?_⟩
    refine ⟨.ref sc, rfl, sc, ns, rfl, hS, hlen, fun d c H1 s1 nd nc D1 => ?_⟩
    have hT1 := hT.same s1
    clear hS hT s1 nd nc
    refine ⟨3, rfl, by decide, by decide, ?_⟩
    refine for_range (lo := 0) (n := 3) (fun i σ' H' => ∃ (y2 y3 y4 y5 y6 y7 y11 y12 y13 y16 y17 y18 : Option V), σ' = [some (.ref sc), some (.ref d), y2, y3, y4, y5, y6, y7, none, none, none, y11, y12, y13, none, none, y16, y17, y18] ∧ Deck H' d c ∧ Tabs Ps H') ⟨none, none, none, none, none, none, none, none, none, none, none, none, rfl, D1, hT1⟩ ?_ ?_
    · clear D1 hT1
      rintro i σ' H2 hi ⟨y2, y3, y4, y5, y6, y7, y11, y12, y13, y16, y17, y18, rfl, D2, T2⟩
      generalize V.int (0 + (i : Nat)) = vi
      refine ⟨.ref d, rfl, d, c, rfl, D2, fun a L B us n ts bs H3 ha hL hus okt l35 n7 n30 hB Ld Bd D3 K3 => ?_⟩
      have T3 := T2.kp K3 D2
      clear D2 T2 K3
      have lus : us.length = ts.length := Paired.length hus
      refine ⟨a, _, rfl, SqT.of ha, rfl, _, _, rfl, _, _, rfl, _, _, rfl, rfl, ?_⟩
      refine ⟨fun σ' H' => ∃ s : Nat, σ' = [some (.ref sc), some (.ref d), some vi, some (.int n), some (.ref L), some (.ref B), some (.int s), y7, none, none, none, y11, y12, y13, none, none, y16, y17, y18] ∧ 1 ≤ s ∧ s ≤ 8 ∧ H' L = some (.lst us) ∧ Paired (TieV H') us ts ∧ H' B = some (.lst (bs.map V.int)) ∧ Deck H' d c ∧ Tabs Ps H', ?_, ?_⟩
      · refine ⟨.ref d, rfl, d, c, 8, rfl, D3, by decide, by decide, fun v H4 a4 b4 D4 K4 => ⟨1, v, rfl, rfl, (1 + v).toNat, ?_, by omega, by omega, K4 _ _ Ld.1 Ld.2 hL, ties_tk (K4.tk D3) hus, K4 _ _ Bd.1 Bd.2 hB, D4, T3.kp K4 D3⟩⟩
        rw [show (((1 + v).toNat : Nat) : Int) = 1 + v from by omega]
        rfl
      clear ha hL hus hB D3 T3
      rintro σ' H3 ⟨s, rfl, s1, s8, hL, hus, hB, D3, T3⟩
      refine ⟨.ref d, rfl, .int s, rfl, .ref d, rfl, d, c, 13, rfl, D3, by decide, by decide, fun v H4 a4 b4 D4 K4 => ⟨d, c, s, v, rfl, D4, by omega, by omega, a4, by omega, fun r us2 ts2 H5 hr5 hus5 ok5 lm D5 K5 => ?_⟩⟩
      have K35 := K4.trans K5
      have hL5 := K35 _ _ Ld.1 Ld.2 hL
      have hus0 := ties_tk (K35.tk D3) hus
      have hB5 := K35 _ _ Bd.1 Bd.2 hB
      have T5 := (T3.kp K4 D3).kp K5 D4
      have lus2 : us2.length = ts2.length := Paired.length hus5
      clear hL hus hB D3 T3 D4 K4 K5 K35
      refine ⟨r, rfl, ⟨_, SqT.of hr5⟩, fun Z nZ => ?_⟩
      have Zd := D5.ned nZ
      refine lc_tup (xs := us2) (fun j H' => ∃ vs, H' Z = some (.lst vs) ∧ Paired (TieV H') vs ((ts2.take j).map (shf n)) ∧ Same H5 H') ⟨[], upd_same, .nil, same_new nZ⟩ (fun j H' _ h => by
        obtain ⟨_, _, _, h⟩ := h
        exact SqT.of (h _ _ hr5)) ?_ ?_
      · rintro j x H6 ej ⟨vs, hZ, hv, s6⟩
        obtain ⟨t, et, a, rfl, ha⟩ := Paired.at hus5 ej
        have jl := (List.getElem?_eq_some_iff.mp et).1
        have lv := Paired.length hv
        rw [List.length_map, List.length_take] at lv
        refine ⟨a, _, rfl, SqT.of (s6 _ _ ha), rfl, _, _, rfl, _, _, rfl, _, _, rfl, rfl, rfl, .int n, rfl, .int t.one, rfl, n, t.one, rfl, rfl, .int n, rfl, .int t.other, rfl, n, t.other, rfl, rfl, .str (kindS t.foe), rfl, by show 3 ≤ sizeLine; decide, fun b nb => ?_⟩
        have sb := same_new (o := .tup [.int ((n : Int) + t.one), .int ((n : Int) + t.other), .str (kindS t.foe)]) nb
        refine ⟨vs, sb _ _ hZ, small1000 (by omega), vs ++ [.ref b], upd_same, ?_, Same.mut (s6.trans sb) nZ⟩
        rw [List.take_add_one, et, List.map_append]
        exact snoc_tie (shf n t) hZ hv nb rfl
      rintro H6 ⟨vs, hZ, hv, s6⟩
      rw [lus2, List.take_length] at hv
      have lv := Paired.length hv
      rw [List.length_map] at lv
      have hL6 := s6 _ _ hL5
      have hus6 := ties_tk (Same.tk s6) hus0
      have hB6 := s6 _ _ hB5
      have D6 := D5.same s6
      have T6 := T5.same s6
      have ok2 : ∀ t ∈ ts2.map (shf n), TieOk ((n + s : Nat) : Int) t := fun t ht => by
        obtain ⟨u, hu, rfl⟩ := List.mem_map.mp ht
        exact shf_ok (ok5.ok u hu)
      have ok1 : ∀ t ∈ ts, TieOk ((n + s : Nat) : Int) t := fun t ht => tie_more (okt t ht)
      generalize hts3 : ts2.map (shf n) = ts3 at hv ok2
      have l13 : ts3.length ≤ 12 := by rw [← hts3, List.length_map]; omega
      have lv3 : vs.length = ts3.length := Paired.length hv
      clear hL5 hus0 hB5 D5 T5 s6 hr5 hus5 nZ
      refine ⟨.ref d, rfl, .int n, rfl, .int s, rfl, n, s, rfl, rfl, d, c, n + s, by rw [Int.natCast_add]; rfl, D6, by omega, fun C os H7 hC pm Cd nC D7 K7 => ?_⟩
      have hL7 := K7 _ _ Ld.1 Ld.2 hL6
      have hus7 := ties_tk (K7.tk D6) hus6
      have hB7 := K7 _ _ Bd.1 Bd.2 hB6
      have hZ7 := K7 _ _ Zd.1 Zd.2 hZ
      have hv7 := ties_tk (K7.tk D6) hv
      have T7 := T6.kp K7 D6
      clear hL6 hus6 hB6 hZ hv T6 D6 K7 nC
      refine ⟨.ref d, rfl, .ref L, rfl, L, us, rfl, .inl (SqL.of hL7), .ref Z, rfl, Z, vs, rfl, .inl (SqL.of hZ7), _, _, rfl, rfl, d, c, us.length + vs.length, by rw [Int.natCast_add]; rfl, D7, by omega, fun R rs H8 hR pmr Rd nR D8 K8 => ?_⟩
      have hL8 := K8 _ _ Ld.1 Ld.2 hL7
      have hus8 := ties_tk (K8.tk D7) hus7
      have hB8 := K8 _ _ Bd.1 Bd.2 hB7
      have hZ8 := K8 _ _ Zd.1 Zd.2 hZ7
      have hv8 := ties_tk (K8.tk D7) hv7
      have hC8 := K8 _ _ Cd.1 Cd.2 hC
      have T8 := T7.kp K8 D7
      have lrs : rs.length ≤ 50 := by
        have : rs.length = us.length + vs.length := by rw [pmr.length_eq, rng_length]
        omega
      clear hL7 hus7 hB7 hZ7 hv7 hC T7 D7 K8 nR
      -- the two webs
      refine ⟨.ref L, rfl, .ref Z, rfl, L, Z, us, vs, rfl, rfl, hL8, hZ8, Nat.le_of_lt (small1000 (by omega)), fun P1 nP1 => ?_⟩
      have P1d := D8.ned nP1
      have s9 := same_new (o := .lst (us ++ vs)) nP1
      have hP9 := upd_same (H := H8) (a := P1) (o := .lst (us ++ vs))
      generalize upd H8 P1 (.lst (us ++ vs)) = H9 at s9 hP9
      refine ⟨.ref L, rfl, L, us, rfl, SqL.of (s9 _ _ hL8), fun Y nY => ?_⟩
      refine lc_it (walk_enum (xs := us)) (fun j H' => ∃ (vs' : List V) (ts' : List Tie), H' Y = some (.lst vs') ∧ Paired (TieV H') vs' ts' ∧ (∀ t ∈ ts', t ∈ ts) ∧ ts'.length ≤ j ∧ Same H9 H') ⟨[], [], upd_same, .nil, fun t ht => (by cases ht), Nat.le_refl _, same_new nY⟩ (fun j H' _ h => by
        obtain ⟨_, _, _, _, _, _, h⟩ := h
        exact SqL.of (h _ _ (s9 _ _ hL8))) ?_ ?_
      · rintro j x HA HB hj ⟨vs', ts', hY, hv', sub', lj, sA⟩ ⟨T1, x1, y, rfl, nT1, rfl, e1, e2⟩
        obtain rfl : V.int (j : Nat) = x1 := Option.some.inj e1
        have s8A := s9.trans sA
        obtain ⟨t, et, cc, rfl, hcc⟩ := Paired.at hus8 e2
        have jl := (List.getElem?_eq_some_iff.mp et).1
        have lv' := Paired.length hv'
        have sB := same_new (o := .tup [.int (j : Nat), .ref cc]) nT1
        have hYB := sB _ _ hY
        have hvB := ties_tk (Same.tk sB) hv'
        have hTB := upd_same (H := HA) (a := T1) (o := .tup [.int (j : Nat), .ref cc])
        generalize upd HA T1 (.tup [.int (j : Nat), .ref cc]) = HB at sB hYB hvB hTB
        refine ⟨T1, _, rfl, SqT.of hTB, rfl, _, _, rfl, _, _, rfl, rfl, rfl, .int (j : Nat), rfl, .ref B, rfl, B, _, rfl, .inl (SqL.of (sB _ _ (s8A _ _ hB8))), rfl, flat_ints _, _, rfl, ?_⟩
        refine ite2 (fun _ => ?_) (fun _ => ?_)
        · refine ⟨.ref cc, rfl, vs', hYB, small1000 (by omega), vs' ++ [.ref cc], ts' ++ [t], upd_same, Paired.snoc (ties_tk (tk_lst hYB) hvB) ⟨cc, rfl, tk_lst hYB _ _ (sB _ _ (s8A _ _ hcc))⟩, fun u hu => ?_, by rw [List.length_append]; show ts'.length + 1 ≤ _; omega, Same.mut (sA.trans sB) nY⟩
          rcases List.mem_append.mp hu with z | z
          · exact sub' u z
          · rw [List.mem_singleton.mp z]
            exact List.mem_of_getElem? et
        · exact ⟨vs', ts', hYB, hvB, sub', by omega, sA.trans sB⟩
      rintro HA ⟨vs', ts', hY, hv', sub', lj, sA⟩
      have s8A := s9.trans sA
      have lv' := Paired.length hv'
      refine ⟨.ref Z, rfl, Y, Z, vs', vs, rfl, rfl, hY, s8A _ _ hZ8, Nat.le_of_lt (small1000 (by omega)), fun P2 nP2 => ⟨by show 2 ≤ sizeLine; decide, fun LL nLL => ?_⟩⟩
      have P2d := (D8.same s8A).ned nP2
      have sB := same_new (o := .lst (vs' ++ vs)) nP2
      have hP2B := upd_same (H := HA) (a := P2) (o := .lst (vs' ++ vs))
      generalize upd HA P2 (.lst (vs' ++ vs)) = HB at sB hP2B nLL
      have s8B := s8A.trans sB
      have LLd := (D8.same s8B).ned nLL
      have sC := same_new (o := .lst [V.ref P1, .ref P2]) nLL
      have s8C := s8B.trans sC
      have st : St40 Ps (upd HB LL (.lst [V.ref P1, .ref P2])) d c C R LL (n + s) os rs (.ref P1) (.ref P2) := by
        refine ⟨s8C _ _ hC8, s8C _ _ hR, upd_same, Cd, Rd, LLd, ⟨P1, us ++ vs, ts ++ ts3, rfl, ((sA.trans sB).trans sC) _ _ hP9, paired_app40 (ties_tk (Same.tk s8C) hus8) (ties_tk (Same.tk s8C) hv8), fun t ht => ?_, by rw [List.length_append]; omega, P1d⟩, ⟨P2, vs' ++ vs, ts' ++ ts3, rfl, sC _ _ hP2B, paired_app40 (ties_tk (Same.tk (sB.trans sC)) hv') (ties_tk (Same.tk s8C) hv8), fun t ht => ?_, by rw [List.length_append]; omega, P2d⟩, D8.same s8C, T8.same s8C⟩
        · rcases List.mem_append.mp ht with z | z
          · exact ok1 t z
          · exact ok2 t z
        · rcases List.mem_append.mp ht with z | z
          · exact ok1 t (sub' t z)
          · exact ok2 t z
      clear hC8 hR hP9 hus8 hv8 hP2B hv' hY hL8 hB8 hZ8 D8 T8 s8A s8B s8C sA sB s9 nP1 nP2 nY nLL
      generalize upd HB LL (.lst [V.ref P1, .ref P2]) = HC at sC st
      clear sC
      refine ⟨LL, rfl, ⟨_, SqL.of st.hLL⟩, ?_⟩
      refine for_list (xs := [V.ref P1, .ref P2]) (fun j σ' H' => ∃ (y13 y16 y17 y18 : Option V), σ' = [some (.ref sc), some (.ref d), some vi, some (.int n), some (.ref L), some (.ref B), some (.int s), some (.ref Z), none, none, none, some (.ref C), some (.ref R), y13, none, none, y16, y17, y18] ∧ St40 Ps H' d c C R LL (n + s) os rs (.ref P1) (.ref P2)) ⟨y13, y16, y17, y18, rfl, st⟩ (fun j σ' H' _ h => by
        obtain ⟨_, _, _, _, _, h⟩ := h
        exact SqL.of h.hLL) ?_ ?_
      · clear st
        rintro j x σ' HD ej ⟨y13, y16, y17, y18, rfl, st⟩
        obtain ⟨Lp, us', ts', pt⟩ : ∃ Lp us ts, Part40 HD d c (n + s) x Lp us ts := by
          have := List.mem_of_getElem? ej
          simp only [List.mem_cons, List.not_mem_nil, or_false] at this
          rcases this with h | h
          · rw [h]; exact st.q1
          · rw [h]; exact st.q2
        obtain rfl := pt.e
        have lu' := Paired.length pt.hu
        refine ⟨.ref R, rfl, R, rfl, ⟨_, SqL.of st.hR⟩, fun S nS => ?_⟩
        refine lc_list (xs := rs.map V.int) (fun i H' => ∃ (ws' : List V) (tw : List Tie), H' S = some (.lst ws') ∧ Paired (TieV H') ws' tw ∧ (∀ t ∈ tw, TieOk ((n + s : Nat) : Int) t) ∧ tw.length ≤ i ∧ Same HD H') ⟨[], [], upd_same, .nil, fun t ht => (by cases ht), Nat.le_refl _, same_new nS⟩ (fun i H' _ h => by
          obtain ⟨_, _, _, _, _, _, h⟩ := h
          exact SqL.of (h _ _ st.hR)) ?_ ?_
        · rintro i y HE ei ⟨ws', tw, hS, hw', okw, li, sE⟩
          obtain ⟨e, ee, rfl⟩ := ints_at ei
          have lw' := Paired.length hw'
          have er := mem_rng.mp (pmr.mem_iff.mp (List.mem_of_getElem? ee))
          have il := (List.getElem?_eq_some_iff.mp ee).1
          refine ⟨rfl, .int e, rfl, .ref Lp, rfl, Lp, us', rfl, .inl (SqL.of (sE _ _ pt.hL)), _, _, rfl, rfl, _, rfl, ?_⟩
          by_cases he : e < (us'.length : Int)
          · rw [decide_eq_true he]
            obtain ⟨ut, eut, euo⟩ := getI (xs := us') er.1 he
            obtain ⟨t, et, cc, rfl, hcc⟩ := Paired.at pt.hu euo
            refine ⟨.ref Lp, rfl, .int e, rfl, Lp, us', e, .ref cc, rfl, rfl, SqL.of (sE _ _ pt.hL), eut, ws', hS, small1000 (by omega), ws' ++ [.ref cc], tw ++ [t], upd_same, Paired.snoc (ties_tk (tk_lst hS) hw') ⟨cc, rfl, tk_lst hS _ _ (sE _ _ hcc)⟩, fun u hu => ?_, by rw [List.length_append]; show tw.length + 1 ≤ _; omega, Same.mut sE nS⟩
            rcases List.mem_append.mp hu with z | z
            · exact okw u z
            · rw [List.mem_singleton.mp z]
              exact pt.ok t (List.mem_of_getElem? et)
          · rw [decide_eq_false he]
            exact ⟨ws', tw, hS, hw', okw, by omega, sE⟩
        rintro HE ⟨ws', tw, hS, hw', okw, li, sE⟩
        rw [List.length_map] at li
        have lw' := Paired.length hw'
        have Sd := st.D.ned nS
        have stE := st.kp (Same.kp sE) (st.D.same sE)
        clear st pt sE nS
        refine ⟨.int n, rfl, .int s, rfl, n, s, rfl, rfl, .ref S, rfl, S, rfl, ⟨_, SqL.of hS⟩, fun Y2 nY2 => ?_⟩
        refine lc_list (xs := ws') (fun i H' => ∃ zs, H' Y2 = some (.lst zs) ∧ Paired (TieV H') zs ((tw.take i).map (ren os)) ∧ Same HE H') ⟨[], upd_same, .nil, same_new nY2⟩ (fun i H' _ h => by
          obtain ⟨_, _, _, h⟩ := h
          exact SqL.of (h _ _ hS)) ?_ ?_
        · rintro i y HF ei ⟨zs, hY, hz, sF⟩
          obtain ⟨t, et, a, rfl, ha⟩ := Paired.at hw' ei
          have jl := (List.getElem?_eq_some_iff.mp et).1
          obtain ⟨o1, o2, o3, o4, o5⟩ := okw t (List.mem_of_getElem? et)
          have lz := Paired.length hz
          rw [List.length_map, List.length_take] at lz
          refine ⟨a, _, rfl, SqT.of (sF _ _ ha), rfl, _, _, rfl, _, _, rfl, _, _, rfl, rfl, rfl, .ref C, rfl, .int t.one, rfl, C, _, t.one, _, rfl, rfl, SqL.of (sF _ _ stE.hC), os_at40 pm o1 o2, .ref C, rfl, .int t.other, rfl, C, _, t.other, _, rfl, rfl, SqL.of (sF _ _ stE.hC), os_at40 pm o3 o4, .str (kindS t.foe), rfl, by show 3 ≤ sizeLine; decide, fun b nb => ?_⟩
          have sb := same_new (o := .tup [.int (os.getD t.one.toNat 0), .int (os.getD t.other.toNat 0), .str (kindS t.foe)]) nb
          refine ⟨zs, sb _ _ hY, small1000 (by omega), zs ++ [.ref b], upd_same, ?_, Same.mut (sF.trans sb) nY2⟩
          rw [List.take_add_one, et, List.map_append]
          exact snoc_tie (ren os t) hY hz nb rfl
        rintro HF ⟨zs, hY, hz, sF⟩
        rw [lw', List.take_length] at hz
        have lz := Paired.length hz
        rw [List.length_map] at lz
        refine ⟨Y2, zs, rfl, .inl ⟨SqL.of hY, fun tt ntt => ⟨by show 2 ≤ sizeLine; decide, fun W nW => ?_⟩⟩⟩
        have sG := sF.trans ((same_new (o := .tup zs) ntt).trans (same_new (o := .tup [V.int ((n : Int) + (s : Nat)), .ref tt]) nW))
        have webG : WebAt (upd (upd HF tt (.tup zs)) W (.tup [V.int ((n : Int) + (s : Nat)), .ref tt])) (.ref W) ((n + s : Nat) : Int) (tw.map (ren os)) := ⟨W, tt, zs, rfl, by rw [upd_same, Int.natCast_add], same_new nW _ _ upd_same, ties_tk (Same.tk ((same_new (o := .tup zs) ntt).trans (same_new (o := .tup [V.int ((n : Int) + (s : Nat)), .ref tt]) nW))) hz⟩
        have stG := stE.kp (Same.kp sG) (stE.D.same sG)
        have hSG := sG _ _ hS
        have okG : WebOk ((n + s : Nat) : Int) (tw.map (ren os)) := ⟨by omega, by omega, by rw [List.length_map]; omega, fun t ht => by
          obtain ⟨u, hu, rfl⟩ := List.mem_map.mp ht
          exact ren_ok pm (okw u hu)⟩
        have ltw : (tw.map (ren os)).length = tw.length := List.length_map _
        clear hY hz stE hS hw' nY2 ntt sF sG
        refine ⟨fun σ' H' => ∃ gv : V, σ' = [some (.ref sc), some (.ref d), some vi, some (.int n), some (.ref L), some (.ref B), some (.int s), some (.ref Z), none, none, none, some (.ref C), some (.ref R), some (.ref Lp), none, none, some (.ref S), some (.ref W), some gv] ∧ WebAt H' (.ref W) ((n + s : Nat) : Int) (tw.map (ren os)) ∧ (gv = .non ∨ ∃ (wa : Addr) (ws : List Int), gv = .ref wa ∧ H' wa = some (.tup (ws.map V.int)) ∧ ws.length = (tw.map (ren os)).length ∧ ∀ x ∈ ws, (1 : Int) ≤ x) ∧ St40 Ps H' d c C R LL (n + s) os rs (.ref P1) (.ref P2), ?_, ?_⟩
        · generalize upd (upd HF tt (.tup zs)) W (.tup [V.int ((n : Int) + (s : Nat)), .ref tt]) = HG at webG stG hSG
          refine ⟨.ref S, rfl, S, rfl, ⟨_, SqL.of hSG⟩, fun Z2 nZ2 => ?_⟩
          have Z2d := stG.D.ned nZ2
          have Z2S : Z2 ≠ S := fun z => by rw [z, hSG] at nZ2; cases nZ2
          have sZ := same_new (o := .lst []) nZ2
          have K0 : Kp d c HG (upd HG Z2 (.lst [])) := Same.kp sZ
          refine lc_list (xs := ws') (fun i H' => ∃ wz : List Int, H' Z2 = some (.lst (wz.map V.int)) ∧ wz.length = i ∧ (∀ x ∈ wz, (1 : Int) ≤ x) ∧ H' S = some (.lst ws') ∧ Deck H' d c ∧ Kp d c HG H') ⟨[], upd_same, rfl, fun x hx => (by cases hx), sZ _ _ hSG, stG.D.same sZ, K0⟩ (fun i H' _ h => by
            obtain ⟨_, _, _, _, h, _⟩ := h
            exact SqL.of h) ?_ ?_
          · rintro i y HI ei ⟨wz, hZ, lwz, pz, hSI, DI, KI⟩
            have il := (List.getElem?_eq_some_iff.mp ei).1
            refine ⟨rfl, .ref d, rfl, d, c, 9, rfl, DI, by decide, by decide, fun v HJ aJ bJ DJ KJ => ⟨1, v, rfl, rfl, ?_⟩⟩
            have hZJ := KJ _ _ Z2d.1 Z2d.2 hZ
            refine ⟨_, hZJ, by rw [List.length_map]; exact small1000 (by omega), wz ++ [1 + v], by rw [upd_same, List.map_append]; rfl, by rw [List.length_append, lwz]; rfl, fun x hx => ?_, by rw [upd_ne (Ne.symm Z2S)]; exact KJ _ _ Sd.1 Sd.2 hSI, DJ.mut Z2d.1 Z2d.2, (KI.trans KJ).mut nZ2⟩
            rcases List.mem_append.mp hx with z | z
            · exact pz x z
            · rw [List.mem_singleton.mp z]
              omega
          rintro HI ⟨wz, hZ, lwz, pz, hSI, DI, KI⟩
          refine ⟨Z2, _, rfl, .inl ⟨SqL.of hZ, fun tp ntp => ⟨by show 2 ≤ sizeLine; decide, fun l nl => ?_⟩⟩⟩
          have sJ := (same_new (o := .tup (wz.map V.int)) ntp).trans (same_new (o := .lst [V.non, .ref tp]) nl)
          have htp := same_new (o := .lst [V.non, .ref tp]) nl _ _ (upd_same (H := HI) (a := tp) (o := .tup (wz.map V.int)))
          have hl := upd_same (H := upd HI tp (.tup (wz.map V.int))) (a := l) (o := .lst [V.non, .ref tp])
          have ld := (DI.same (same_new (o := .tup (wz.map V.int)) ntp)).ned nl
          have DJ := DI.same sJ
          have KJ := KI.trans (Same.kp sJ)
          generalize upd (upd HI tp (.tup (wz.map V.int))) l (.lst [V.non, .ref tp]) = HJ at sJ htp hl DJ KJ
          refine ⟨.ref d, rfl, d, c, 2, rfl, DJ, by decide, by decide, fun v HK aK bK DK KK => ?_⟩
          have KGK := KJ.trans KK
          have webK := webG.tk (KGK.tk stG.D)
          have stK := stG.kp KGK DK
          have hlK := KK _ _ ld.1 ld.2 hl
          have htpK := (KK.tk DJ).tup _ _ htp
          have h01 : v = 0 ∨ v = 1 := by omega
          rcases h01 with rfl | rfl
          · exact ⟨l, _, 0, .non, rfl, rfl, SqL.of hlK, rfl, .non, rfl, webK, .inl rfl, stK⟩
          · exact ⟨l, _, 1, .ref tp, rfl, rfl, SqL.of hlK, rfl, .ref tp, rfl, webK, .inr ⟨tp, wz, rfl, htpK, by rw [lwz, ltw, lw'], pz⟩, stK⟩
        rintro σ' HH ⟨gv, rfl, webH, hgv, stH⟩
        refine ⟨.ref W, rfl, gv, rfl, .ref W, gv, n + s, _, rfl, webH, okG, hgv, stH.T, fun HI kI => ⟨_, rfl, ?_⟩⟩
        exact ⟨_, _, _, _, rfl, stH.kt kI⟩
      · rintro σ' HD ⟨y13, y16, y17, y18, rfl, st⟩
        exact ⟨_, _, _, _, _, _, _, _, _, _, _, _, rfl, st.D, st.T⟩
    · rintro σ' H3 ⟨y2, y3, y4, y5, y6, y7, y11, y12, y13, y16, y17, y18, rfl, D3, hT3⟩
      exact q H3
end
/-! ### the end of a law whose defs hold generator expressions: their tables are empty behind the top -/
theorem walk_tabs {l : PySem.W.OpenLaw} {n k : Nat} {q : Program} {loose : List Str} {XP : (Str → Option Value) → Heap → Prop} {YP : World → Heap → Prop} {d : DefRec} {K : Params → PySem.W.Frag} {x : Str}
    (hn : l.most = some n) (hn2 : n ≤ sizeLine) (hdf : d.params.defaults = []) (hr : Room k callerA) (hY : ∀ (w : World) (h : Heap), YP w h → (K w.params).In h)
    (F : ∀ (w : World) (mg : Str → Option Value) (fa : Addr) (h : Heap), (K w.params).In h → h.Ns mainGlobals mg → mg d.name = some (.ref fa) →
      (∀ (y : Str) (fy : Addr), ((recsOf q).any fun e => e.name == y) = true → mg y = some (.ref fy) → LamX.OwnTab (K w.params) fy h) → LamX.LawAtS l w (K w.params) CX0 k n x mg fa h) :
    PySem.W.WalkO q loose XP YP l.row.toRowW d [] (fun f vs => PySem.call f vs) := by
  refine Att.attach_callB hn hdf fun w s₀ s₁ mg mb fa o pm cd doc a vs ns G Y ho hd hcd hmg hobj hints hlen hbits hg => ?_
  have KX := hY w _ Y
  have tabs : ∀ (y : Str) (fy : Addr), ((recsOf q).any fun e => e.name == y) = true → mg y = some (.ref fy) → LamX.OwnTab (K w.params) fy s₁.heap := fun y fy hy hm c P o1 fd1 e dd vs1 sl k1 k2 k3 k4 k5 => by
    obtain ⟨dL, hmem, hnm⟩ := List.any_eq_true.mp hy
    have hnm : dL.name = y := beq_iff_eq.mp hnm
    obtain ⟨a', o', fd', c', P', h1, h2, h3, h4, h5, h6⟩ := G.T.tab dL hmem
    rw [hnm, hm] at h1
    cases h1
    rw [KX _ _ k1] at h2
    cases h2
    rw [k2] at h3
    cases h3
    rw [k3] at h4
    cases h4
    obtain ⟨⟨oc, vc, e1, _, e3, e4⟩, hP⟩ := h6
    rw [KX _ _ k4] at e1
    cases e1
    cases e3
    rw [k5] at e4
    cases e4
    exact hP
  obtain ⟨fd, cs, sp, hT, nT, C, hb, hsp, hF⟩ := F w mg fa _ KX G.T.g hmg tabs
  exact LamX.law_callTs KX G.T.g G.T.b G.T.builtins G.T.nolimit hg hT nT C G.T.bmain hobj hints (Nat.le_trans hlen hn2) hr hF hb (fun H hH hS => hsp H a ns hlen hbits hH hS) fun H e s' z => z
/-- where a def stands, and where its code object does -/
structure At (K : PySem.W.Frag) (x : Str) (st : Stmt) (f : Addr) : Prop where
  ns : PySem.W.nsIn K mainGlobals x = some (some (.ref f))
  ex : ∃ (oc : Value) (od : Option Addr) (kV doc pm : Value) (an : Option Addr) (cdv ct : Value) (osl : Array (Option Value)),
    K.lookup f = some ⟨oc, od, .func (PySem.W.fnOf x x (defArgs st) (defBody st) (defScope st) .none kV doc pm an cdv ct), osl⟩ ∧ PySem.W.codeIn K cdv x = true
  kp : PySem.W.keepIn K (.ref f) = true
theorem at_mk {K : PySem.W.Frag} {x : Str} {st : Stmt} {f : Addr} {oc : Value} {od an : Option Addr} {osl : Array (Option Value)} {kV doc pm cdv ct : Value} (a : PySem.W.nsIn K mainGlobals x = some (some (.ref f)))
    (l : K.lookup f = some ⟨oc, od, .func (PySem.W.fnOf x x (defArgs st) (defBody st) (defScope st) .none kV doc pm an cdv ct), osl⟩) (c : PySem.W.codeIn K cdv x = true) (k : PySem.W.keepIn K (.ref f) = true) : At K x st f := ⟨a, ⟨oc, od, kV, doc, pm, an, cdv, ct, osl, l, c⟩, k⟩
theorem At.fn {K : PySem.W.Frag} {x : Str} {st : Stmt} {f : Addr} (h : At K x st f) : ∃ fd, Fun K x x st f fd := by
  obtain ⟨oc, od, kV, doc, pm, an, cdv, ct, osl, l, c⟩ := h.ex
  exact ⟨_, fun_mk l c h.kp⟩
structure AtC (K : PySem.W.Frag) (x : Str) (st : Stmt) (f c Pt : Addr) : Prop where
  ns : PySem.W.nsIn K mainGlobals x = some (some (.ref f))
  ex : ∃ (oc : Value) (od : Option Addr) (kV doc pm : Value) (an : Option Addr) (ct : Value) (osl : Array (Option Value)),
    K.lookup f = some ⟨oc, od, .func (PySem.W.fnOf x x (defArgs st) (defBody st) (defScope st) .none kV doc pm an (.ref c) ct), osl⟩ ∧ PySem.W.codeIn K (.ref c) x = true
  kp : PySem.W.keepIn K (.ref f) = true
  co : ∃ (dd : Option Addr) (vs : Array Value) (sl : Array (Option Value)) (file : Str) (tf : Tok) (flags : Int) (tg : Tok) (inF : Bool) (text : Int) (tt : Tok), K.lookup c = some ⟨.type "code", dd, .fields vs, sl⟩ ∧ vs[11]? = some (.ref Pt) ∧ vs.getD 11 .none = .ref Pt ∧ vs.getD 18 .none = .str file tf ∧
    vs.getD 7 .none = .int flags tg ∧ vs.getD 9 .none = .bool inF ∧ vs.getD 10 .none = .int text tt ∧ c ≠ Pt
  nP : K.lookup Pt = none
theorem atC_mk {K : PySem.W.Frag} {x : Str} {st : Stmt} {f c Pt : Addr} {oc : Value} {od an dd : Option Addr} {osl sl : Array (Option Value)} {kV doc pm ct : Value} {vs : Array Value} {file : Str} {tf tg tt : Tok} {flags text : Int} {inF : Bool} (a : PySem.W.nsIn K mainGlobals x = some (some (.ref f)))
    (l : K.lookup f = some ⟨oc, od, .func (PySem.W.fnOf x x (defArgs st) (defBody st) (defScope st) .none kV doc pm an (.ref c) ct), osl⟩) (cc : PySem.W.codeIn K (.ref c) x = true) (k : PySem.W.keepIn K (.ref f) = true)
    (lc : K.lookup c = some ⟨.type "code", dd, .fields vs, sl⟩) (v11 : vs[11]? = some (.ref Pt)) (w11 : vs.getD 11 .none = .ref Pt) (v18 : vs.getD 18 .none = .str file tf) (v7 : vs.getD 7 .none = .int flags tg) (v9 : vs.getD 9 .none = .bool inF) (v10 : vs.getD 10 .none = .int text tt) (ne : c ≠ Pt)
    (nP : K.lookup Pt = none) : AtC K x st f c Pt := ⟨a, ⟨oc, od, kV, doc, pm, an, ct, osl, l, cc⟩, k, ⟨dd, vs, sl, file, tf, flags, tg, inF, text, tt, lc, v11, w11, v18, v7, v9, v10, ne⟩, nP⟩
theorem AtC.fn {K : PySem.W.Frag} {x : Str} {st : Stmt} {f c Pt : Addr} (h : AtC K x st f c Pt) : ∃ fd, FunC K x x st f fd c := by
  obtain ⟨oc, od, kV, doc, pm, an, ct, osl, l, cc⟩ := h.ex
  exact ⟨_, ⟨oc, od, kV, doc, pm, an, ct, osl, rfl, l, cc⟩, h.kp⟩
theorem AtC.hd {K : PySem.W.Frag} {h : Heap} {x : Str} {st : Stmt} {f c Pt : Addr} (a : AtC K x st f c Pt) (X : K.In h) : PySem.W.CodeHd h c Pt := by
  obtain ⟨dd, vs, sl, file, tf, flags, tg, inF, text, tt, lc, v11, w11, v18, v7, v9, v10, ne⟩ := a.co
  exact ⟨_, vs, file, tf, flags, tg, inF, text, tt, X _ _ lc, rfl, rfl, v11, w11, v18, v7, v9, v10, ne⟩
theorem AtC.tab {K : PySem.W.Frag} {h : Heap} {x : Str} {st : Stmt} {f c Pt : Addr} (a : AtC K x st f c Pt) (o : LamX.OwnTab K f h) : h.get? Pt = some { cls := .none, data := .fields #[] } := by
  obtain ⟨oc, od, kV, doc, pm, an, ct, osl, l, cc⟩ := a.ex
  obtain ⟨dd, vs, sl, file, tf, flags, tg, inF, text, tt, lc, v11, w11, v18, v7, v9, v10, ne⟩ := a.co
  exact o c Pt _ _ _ _ _ _ l rfl rfl lc v11
section
variable {P : Program} {w : World} {K : PySem.W.Frag} {mg : Str → Option Value} {base : Heap}
theorem Df.of {x : Str} {st : Stmt} {f : Addr} {fd : FuncData} {k : Nat} {ps : List Str} {sp : Sp} (g : mg x = some (.ref f)) (F : Fun K x x st f fd) (G : FnOk P w K mg base CX0 k f fd ps sp)
    (h : ∀ (kV doc pm : Value) (an : Option Addr) (cdv ct : Value) (us : List Value), us.length = ps.length → bindArgs (PySem.W.fnOf x x (defArgs st) (defBody st) (defScope st) .none kV doc pm an cdv ct) ⟨us, []⟩ = pure (ps.zip us)) : Df P w K mg base k x ps sp :=
  ⟨f, fd, G, g, F.kp, F.binds h⟩
end
/-- a def with defaults, as the top has written it -/
structure AtD (K : PySem.W.Frag) (x : Str) (st : Stmt) (f : Addr) (dvs : List V) : Prop where
  ns : PySem.W.nsIn K mainGlobals x = some (some (.ref f))
  fn : ∃ fd, FunD K x x (defArgs st) (defBody st) (defScope st) dvs [] f fd
theorem atD_mk {K : PySem.W.Frag} {x : Str} {st : Stmt} {f T : Addr} {dvs : List V} {oc : Value} {od an : Option Addr} {osl : Array (Option Value)} {kV doc pm cdv ct : Value} {o : Obj} {its : List Value} {n : Nat} (a : PySem.W.nsIn K mainGlobals x = some (some (.ref f)))
    (l : K.lookup f = some ⟨oc, od, .func (PySem.W.fnOf x x (defArgs st) (defBody st) (defScope st) (.ref T) kV doc pm an cdv ct), osl⟩) (c : PySem.W.codeIn K cdv x = true) (k : PySem.W.keepIn K (.ref f) = true)
    (lT : K.lookup T = some o) (oT : o.data = .seq its.toArray n) (hv : Vals dvs its) (ne : dvs ≠ []) : AtD K x st f dvs :=
  ⟨a, _, ⟨oc, od, .ref T, kV, doc, pm, an, cdv, ct, osl, rfl, l, c, .inr ⟨ne, T, o, its, n, rfl, lT, oT, hv⟩, .inl rfl⟩, k⟩
theorem DfD.of {P : Program} {w : World} {K : PySem.W.Frag} {mg : Str → Option Value} {base : Heap} {x : Str} {st : Stmt} {f : Addr} {fd : FuncData} {k : Nat} {ps : List Str} {sp : Sp} {dv : V} (g : mg x = some (.ref f)) (F : FunD K x x (defArgs st) (defBody st) (defScope st) [dv] [] f fd) (G : FnOk P w K mg base CX0 k f fd ps sp)
    (h2 : ∀ (T : Addr) (kV doc pm : Value) (an : Option Addr) (cdv ct : Value) (us its : List Value), us.length = ps.length → its.length = 1 → ∃ k, bindArgs (PySem.W.fnOf x x (defArgs st) (defBody st) (defScope st) (.ref T) kV doc pm an cdv ct) ⟨us, []⟩ = seqItems? (.ref T) >>= k ∧ k (some its.toArray) = pure (ps.zip (us ++ its.drop 1)))
    (h1 : ∀ (T : Addr) (kV doc pm : Value) (an : Option Addr) (cdv ct : Value) (us its : List Value), us.length = ps.length - 1 → its.length = 1 → ∃ k, bindArgs (PySem.W.fnOf x x (defArgs st) (defBody st) (defScope st) (.ref T) kV doc pm an cdv ct) ⟨us, []⟩ = seqItems? (.ref T) >>= k ∧ k (some its.toArray) = pure (ps.zip (us ++ its.drop 0)))
    (hp : 1 ≤ ps.length) : DfD P w K mg base k x ps sp [dv] := by
  obtain ⟨ds2, v2, b2⟩ := F.binds1 (ps := ps) ps.length 1 (fun z => by cases z) (by simp) h2
  obtain ⟨ds1, v1, b1⟩ := F.binds1 (ps := ps) (ps.length - 1) 0 (fun z => by cases z) (by show ps.length - 1 + (1 - 0) = ps.length; omega) h1
  have e2 : ds2 = [] := by
    cases v2
    rfl
  subst e2
  exact ⟨f, fd, G, g, F.kp, b2, ds1, v1, b1⟩
/-! ### what the top has written -/
section
variable {P : Program} {w : World} {K : PySem.W.Frag} {mg : Str → Option Value} {base : Heap}
set_option maxHeartbeats 0 in
theorem law_at {l : PySem.W.OpenLaw} {w : World} {K : PySem.W.Frag} {h : Heap} {mg : Str → Option Value} {fa f0 f1 f2 f3 f4 f5 f6 f7 f8 f9 f10 f11 f12 f13 f14 f15 f16 f17 f18 f19 f20 f21 f22 f23 f24 f25 f26 f27 c6 P6 c7 P7 c8 P8 eW e_TooMany e_NoFrame e_NoRow e_NoText e_NoTie e_NotFlat : Addr} {nt0 : Tok} (X : K.In h) (G : h.Ns mainGlobals mg) (hfa : mg "law" = some (.ref fa))
    (t6 : ∀ (fy : Addr), mg "mend_weight" = some (.ref fy) → LamX.OwnTab K fy h)
    (t7 : ∀ (fy : Addr), mg "odd_parts" = some (.ref fy) → LamX.OwnTab K fy h)
    (t8 : ∀ (fy : Addr), mg "small_odd_parts" = some (.ref fy) → LamX.OwnTab K fy h)
    (a0 : At K "neighbours" s_neighbours f0)
    (a1 : At K "sides_from" s_sides_from f1)
    (a2 : At K "parts_of" s_parts_of f2)
    (a3 : At K "ties_within" s_ties_within f3)
    (a4 : At K "breaks" s_breaks f4)
    (a5 : At K "weight_of" s_weight_of f5)
    (a6 : AtC K "mend_weight" s_mend_weight f6 c6 P6)
    (a7 : AtC K "odd_parts" s_odd_parts f7 c7 P7)
    (a8 : AtC K "small_odd_parts" s_small_odd_parts f8 c8 P8)
    (a9 : At K "all_sides" s_all_sides f9)
    (a10 : At K "least_of_part" s_least_of_part f10)
    (a11 : AtD K "least_mend" s_least_mend f11 [.non])
    (a12 : At K "ring_row" s_ring_row f12)
    (a13 : At K "known_broken" s_known_broken f13)
    (a14 : At K "part_paper" s_part_paper f14)
    (a15 : AtD K "paper_of" s_paper_of f15 [.non])
    (a16 : At K "_law_deck" s_l_deck f16)
    (a17 : At K "_law_take" s_l_take f17)
    (a18 : At K "_law_ties" s_l_ties f18)
    (a19 : At K "_law_shuffled" s_l_shuffled f19)
    (a20 : At K "_law_sides" s_l_sides f20)
    (a21 : At K "_law_parts" s_l_parts f21)
    (a22 : At K "_law_least_part" s_l_least_part f22)
    (a23 : At K "_law_least" s_l_least f23)
    (a24 : At K "_law_great" s_l_great f24)
    (a25 : At K "_law_asked" s_l_asked f25)
    (a26 : At K "_law_right" s_l_right f26)
    (a27 : At K "law" s_law f27)
    (z0 : PySem.W.nsIn K mainGlobals "len" = some none)
    (z1 : PySem.W.nsIn K mainGlobals "int" = some none)
    (z2 : PySem.W.nsIn K mainGlobals "bool" = some none)
    (z3 : PySem.W.nsIn K mainGlobals "str" = some none)
    (z4 : PySem.W.nsIn K mainGlobals "list" = some none)
    (z5 : PySem.W.nsIn K mainGlobals "tuple" = some none)
    (z6 : PySem.W.nsIn K mainGlobals "range" = some none)
    (z7 : PySem.W.nsIn K mainGlobals "isinstance" = some none)
    (z8 : PySem.W.nsIn K mainGlobals "sum" = some none)
    (z9 : PySem.W.nsIn K mainGlobals "any" = some none)
    (z10 : PySem.W.nsIn K mainGlobals "enumerate" = some none)
    (z11 : PySem.W.nsIn K mainGlobals "min" = some none)
    (z12 : PySem.W.nsIn K mainGlobals "set" = some none)
    (z13 : PySem.W.nsIn K mainGlobals "sorted" = some none)
    (z14 : PySem.W.nsIn K mainGlobals "ValueError" = some none)
    (e0 : ErrK K "TooMany" e_TooMany eW)
    (k0_0 : KitK K e_TooMany "TooMany" e_TooMany true)
    (k0_1 : KitK K e_TooMany "NoFrame" e_NoFrame false)
    (k0_2 : KitK K e_TooMany "NoRow" e_NoRow false)
    (k0_3 : KitK K e_TooMany "NoText" e_NoText false)
    (k0_4 : KitK K e_TooMany "NoTie" e_NoTie false)
    (k0_5 : KitK K e_TooMany "NotFlat" e_NotFlat false)
    (v0 : PySem.W.kitOne K (.ref e_TooMany) (.type "ValueError") = some true)
    (n0 : PySem.W.nsIn K mainGlobals "MOST_PLACES" = some (some (.int 8 nt0))) :
    LamX.LawAtS l w K CX0 16 63 "_law_script" mg fa h := by
  have efa := hfa.symm.trans (PySem.W.mg_of X G a27.ns)
  cases efa
  have M : Free mg := ⟨PySem.W.mg_none_of X G z0, PySem.W.mg_none_of X G z1, PySem.W.mg_none_of X G z2, PySem.W.mg_none_of X G z3, PySem.W.mg_none_of X G z4, PySem.W.mg_none_of X G z5, PySem.W.mg_none_of X G z6, PySem.W.mg_none_of X G z7, PySem.W.mg_none_of X G z8⟩
  have m_any := PySem.W.mg_none_of X G z9
  have m_enumerate := PySem.W.mg_none_of X G z10
  have m_min := PySem.W.mg_none_of X G z11
  have m_set := PySem.W.mg_none_of X G z12
  have m_sorted := PySem.W.mg_none_of X G z13
  have m_ValueError := PySem.W.mg_none_of X G z14
  obtain ⟨d0, F0⟩ := a0.fn
  obtain ⟨d1, F1⟩ := a1.fn
  obtain ⟨d2, F2⟩ := a2.fn
  obtain ⟨d3, F3⟩ := a3.fn
  obtain ⟨d4, F4⟩ := a4.fn
  obtain ⟨d5, F5⟩ := a5.fn
  obtain ⟨d6, F6⟩ := a6.fn
  obtain ⟨d7, F7⟩ := a7.fn
  obtain ⟨d8, F8⟩ := a8.fn
  obtain ⟨d9, F9⟩ := a9.fn
  obtain ⟨d10, F10⟩ := a10.fn
  obtain ⟨d11, F11⟩ := a11.fn
  obtain ⟨d12, F12⟩ := a12.fn
  obtain ⟨d13, F13⟩ := a13.fn
  obtain ⟨d14, F14⟩ := a14.fn
  obtain ⟨d15, F15⟩ := a15.fn
  obtain ⟨d16, F16⟩ := a16.fn
  obtain ⟨d17, F17⟩ := a17.fn
  obtain ⟨d18, F18⟩ := a18.fn
  obtain ⟨d19, F19⟩ := a19.fn
  obtain ⟨d20, F20⟩ := a20.fn
  obtain ⟨d21, F21⟩ := a21.fn
  obtain ⟨d22, F22⟩ := a22.fn
  obtain ⟨d23, F23⟩ := a23.fn
  obtain ⟨d24, F24⟩ := a24.fn
  obtain ⟨d25, F25⟩ := a25.fn
  obtain ⟨d26, F26⟩ := a26.fn
  obtain ⟨d27, F27⟩ := a27.fn
  have g0 := PySem.W.mg_of X G a0.ns
  have g1 := PySem.W.mg_of X G a1.ns
  have g2 := PySem.W.mg_of X G a2.ns
  have g3 := PySem.W.mg_of X G a3.ns
  have g4 := PySem.W.mg_of X G a4.ns
  have g5 := PySem.W.mg_of X G a5.ns
  have g6 := PySem.W.mg_of X G a6.ns
  have g7 := PySem.W.mg_of X G a7.ns
  have g8 := PySem.W.mg_of X G a8.ns
  have g9 := PySem.W.mg_of X G a9.ns
  have g10 := PySem.W.mg_of X G a10.ns
  have g11 := PySem.W.mg_of X G a11.ns
  have g12 := PySem.W.mg_of X G a12.ns
  have g13 := PySem.W.mg_of X G a13.ns
  have g14 := PySem.W.mg_of X G a14.ns
  have g15 := PySem.W.mg_of X G a15.ns
  have g16 := PySem.W.mg_of X G a16.ns
  have g17 := PySem.W.mg_of X G a17.ns
  have g18 := PySem.W.mg_of X G a18.ns
  have g19 := PySem.W.mg_of X G a19.ns
  have g20 := PySem.W.mg_of X G a20.ns
  have g21 := PySem.W.mg_of X G a21.ns
  have g22 := PySem.W.mg_of X G a22.ns
  have g23 := PySem.W.mg_of X G a23.ns
  have g24 := PySem.W.mg_of X G a24.ns
  have g25 := PySem.W.mg_of X G a25.ns
  have g26 := PySem.W.mg_of X G a26.ns
  have hb0 : ∀ (s : Shared) (u : Value), BindsTo s d27 ⟨[u], []⟩ [("_law_script", u)] := by
    obtain ⟨oc, od, kV, doc, pm, an, cdv, ct, osl, rfl, _⟩ := F27.ex
    exact fun s u => .of_eq rfl
  refine ⟨d27, [(c6, P6), (c7, P7), (c8, P8)], (spLaw K [P6, P7, P8]), (List.forall_mem_cons.mpr ⟨a6.tab (t6 _ g6), (List.forall_mem_cons.mpr ⟨a7.tab (t7 _ g7), (List.forall_mem_cons.mpr ⟨a8.tab (t8 _ g8), (fun p hp => by simp at hp)⟩)⟩)⟩), (List.forall_mem_cons.mpr ⟨a6.nP, (List.forall_mem_cons.mpr ⟨a7.nP, (List.forall_mem_cons.mpr ⟨a8.nP, (fun p hp => by simp at hp)⟩)⟩)⟩), (List.forall_mem_cons.mpr ⟨a6.hd X, (List.forall_mem_cons.mpr ⟨a7.hd X, (List.forall_mem_cons.mpr ⟨a8.hd X, (fun p hp => by simp at hp)⟩)⟩)⟩), hb0, fun H a ns hl _ hT hS => ⟨a, ns, rfl, hS, hl, (List.forall_mem_cons.mpr ⟨⟨#[], hT (c6, P6) (by simp), by trivial⟩, (List.forall_mem_cons.mpr ⟨⟨#[], hT (c7, P7) (by simp), by trivial⟩, (List.forall_mem_cons.mpr ⟨⟨#[], hT (c8, P8) (by simp), by trivial⟩, (fun p hp => by simp at hp)⟩)⟩)⟩), fun _ => rfl⟩, fun base KB GB TB => ?_⟩
  have tb6 := TB (c6, P6) (by simp)
  have tb7 := TB (c7, P7) (by simp)
  have tb8 := TB (c8, P8) (by simp)
  have D0 : Df l.prog w K mg base 1 "neighbours" ["web"] spNeighbours := .of g0 F0 (ok_neighbours F0 M) fun _ _ _ _ _ _ us hl => match us, hl with | [_], _ => rfl
  have D1 : Df l.prog w K mg base 1 "sides_from" ["start", "around"] spSidesFrom := .of g1 F1 (ok_sides_from F1 M) fun _ _ _ _ _ _ us hl => match us, hl with | [_, _], _ => rfl
  have D2 : Df l.prog w K mg base 2 "parts_of" ["web"] spPartsOf := .of g2 F2 (ok_parts_of F2 M m_sorted D0 D1) fun _ _ _ _ _ _ us hl => match us, hl with | [_], _ => rfl
  have D3 : Df l.prog w K mg base 1 "ties_within" ["web", "part"] spTiesWithin := .of g3 F3 (ok_ties_within F3 M m_enumerate) fun _ _ _ _ _ _ us hl => match us, hl with | [_, _], _ => rfl
  have D4 : Df l.prog w K mg base 1 "breaks" ["sides", "tie"] spBreaksD := .of g4 F4 (ok_breaks F4) fun _ _ _ _ _ _ us hl => match us, hl with | [_, _], _ => rfl
  have D5 : Df l.prog w K mg base 1 "weight_of" ["weights", "tie"] spWeightOf := .of g5 F5 (ok_weight_of F5) fun _ _ _ _ _ _ us hl => match us, hl with | [_, _], _ => rfl
  have D6 : Df l.prog w K mg base 3 "mend_weight" ["weights", "ties"] (spMend [P6, P7, P8]) := .of g6 F6.fn (ok_mend_weight F6 ⟨tb6.code, tb6.bm, tb6.gP⟩ (show P6 ∈ [P6, P7, P8] by simp) M D5) fun _ _ _ _ _ _ us hl => match us, hl with | [_, _], _ => rfl
  have D7 : Df l.prog w K mg base 4 "odd_parts" ["web"] (spOddParts [P6, P7, P8]) := .of g7 F7.fn (ok_odd_parts F7 ⟨tb7.code, tb7.bm, tb7.gP⟩ (show P7 ∈ [P6, P7, P8] by simp) m_any D0 D2 D3 D1 D4) fun _ _ _ _ _ _ us hl => match us, hl with | [_], _ => rfl
  have D8 : DfX l.prog w K mg base 6 "small_odd_parts" ["web"] (spSmallOddX [P6, P7, P8] e_TooMany) := .of g8 F8.fn (okX_small_odd_parts (e0.ref X G) F8 ⟨tb8.code, tb8.bm, tb8.gP⟩ (show P8 ∈ [P6, P7, P8] by simp) M m_any (PySem.W.mg_of X G n0) D7) fun _ _ _ _ _ _ us hl => match us, hl with | [_], _ => rfl
  have D9 : Df l.prog w K mg base 1 "all_sides" ["part"] spAllSides := .of g9 F9 (ok_all_sides F9) fun _ _ _ _ _ _ us hl => match us, hl with | [_], _ => rfl
  have D10 : Df l.prog w K mg base 4 "least_of_part" ["web", "weights", "part", "ties"] (spLeastOf [P6, P7, P8]) := .of g10 F10 (ok_least_of_part F10 M m_min D9 D4 D6) fun _ _ _ _ _ _ us hl => match us, hl with | [_, _, _, _], _ => rfl
  have D11 : DfX l.prog w K mg base 7 "least_mend" ["web", "weights"] (spLeastMendX [P6, P7, P8] e_TooMany) := .ofD g11 F11 (okX_least_mend F11 M m_sorted D8 D10 D6) (fun T kV doc pm an cdv ct us its hl hi => match us, hl, its, hi with | [_, _], _, [_], _ => ⟨_, rfl, rfl⟩)
  have D12 : Df l.prog w K mg base 2 "ring_row" ["web", "weights", "part", "tie"] spRingRow41 := .of g12 F12 (ok_ring_row F12 M D5) fun _ _ _ _ _ _ us hl => match us, hl with | [_, _, _, _], _ => rfl
  have D13 : Df l.prog w K mg base 2 "known_broken" ["web", "ties", "sides"] spKnown := .of g13 F13 (ok_known_broken F13 D4) fun _ _ _ _ _ _ us hl => match us, hl with | [_, _, _], _ => rfl
  have D14 : Df l.prog w K mg base 12 "part_paper" ["web", "weights", "row", "least", "sides"] (spPartAny [P6, P7, P8]) := .of g14 F14 (ok_part_any (ok_part_paper F14 M g14 (F14.binds fun _ _ _ _ _ _ us hl => match us, hl with | [_, _, _, _, _], _ => rfl) D13 D6 D12)) fun _ _ _ _ _ _ us hl => match us, hl with | [_, _, _, _, _], _ => rfl
  have D15 : DfX l.prog w K mg base 13 "paper_of" ["web", "weights"] (spPaperOfX [P6, P7, P8] e_TooMany) := .ofD g15 F15 (okX_paper_of F15 M D8 D10 D14) (fun T kV doc pm an cdv ct us its hl hi => match us, hl, its, hi with | [_, _], _, [_], _ => ⟨_, rfl, rfl⟩)
  have D16 : Df l.prog w K mg base 1 "_law_deck" ["_law_script"] (spDeck K) := .of g16 F16 (ok_l_deck F16 M) fun _ _ _ _ _ _ us hl => match us, hl with | [_], _ => rfl
  have D17 : Df l.prog w K mg base 1 "_law_take" ["_law_deck_here", "_law_many"] spDraw := .of g17 F17 (ok_l_take F17 M) fun _ _ _ _ _ _ us hl => match us, hl with | [_, _], _ => rfl
  have D18 : Df l.prog w K mg base 2 "_law_ties" ["_law_deck_here", "_law_many", "_law_most"] spLTies := .of g18 F18 (ok_l_ties F18 M D17) fun _ _ _ _ _ _ us hl => match us, hl with | [_, _, _], _ => rfl
  have D19 : Df l.prog w K mg base 2 "_law_shuffled" ["_law_deck_here", "_law_many"] spShuf := .of g19 F19 (ok_l_shuffled F19 M D17) fun _ _ _ _ _ _ us hl => match us, hl with | [_, _], _ => rfl
  have D20 : Df l.prog w K mg base 1 "_law_sides" ["_law_many", "_law_ties_here"] spLSides := .of g20 F20 (ok_l_sides F20 M) fun _ _ _ _ _ _ us hl => match us, hl with | [_, _], _ => rfl
  have D21 : Df l.prog w K mg base 1 "_law_parts" ["_law_many", "_law_ties_here"] spLParts := .of g21 F21 (ok_l_parts F21 M m_sorted) fun _ _ _ _ _ _ us hl => match us, hl with | [_, _], _ => rfl
  have D22 : Df l.prog w K mg base 1 "_law_least_part" ["_law_part", "_law_rows"] spLLeastPart := .of g22 F22 (ok_l_least_part F22 M m_enumerate m_min) fun _ _ _ _ _ _ us hl => match us, hl with | [_, _], _ => rfl
  have D23 : Df l.prog w K mg base 2 "_law_least" ["_law_many", "_law_ties_here", "_law_weights"] spLLeast40 := .of g23 F23 (okX_l_least F23 M m_enumerate D21 D20 D22) fun _ _ _ _ _ _ us hl => match us, hl with | [_, _, _], _ => rfl
  have D24 : Df l.prog w K mg base 2 "_law_great" ["_law_deck_here"] spGreat := .of g24 F24 (ok_l_great F24 M m_enumerate D17) fun _ _ _ _ _ _ us hl => match us, hl with | [_], _ => rfl
  have D25 : Df l.prog w K mg base 14 "_law_asked" ["_law_way", "_law_web", "_law_weights"] (spAsked [P6, P7, P8]) := .of g25 F25 (ok_l_asked F25 M m_ValueError (e0.ref X G) (k0_0.kit X G) (k0_1.kit X G) (k0_2.kit X G) (k0_3.kit X G) (k0_4.kit X G) (k0_5.kit X G) v0 D11 D15) fun _ _ _ _ _ _ us hl => match us, hl with | [_, _, _], _ => rfl
  have D26 : Df l.prog w K mg base 15 "_law_right" ["_law_web", "_law_weights"] (spRight40 [P6, P7, P8]) := .of g26 F26 (ok_l_right F26 M D23 D25) fun _ _ _ _ _ _ us hl => match us, hl with | [_, _], _ => rfl
  exact ok_law F27 M m_enumerate D16 D24 D17 D18 D19 D26
end
end FF
open PySem PySem.W PyProof.Rows
set_option maxRecDepth 100000 in
set_option maxHeartbeats 0 in
theorem PySem.Challenge.cw_friendfoe_k40_too_many_places_holds : PySem.Challenge.rw_friendfoe_k40_too_many_places.Holds := by
  w_on; o_law; k_head; (case hw => w_witness2)
  k_fill
  refine FF.walk_tabs (l := PySem.Challenge.rw_friendfoe_k40_too_many_places) (n := 63) (k := 16) (x := "_law_script") rfl (by decide) rfl ⟨rfl, by decide, by decide⟩ (fun w h Y => PySem.W.kIn_of Y) ?F
  case F =>
    intro w mg fa h KX G hmg tabs
    refine' FF.law_at KX G hmg (fun fy => tabs "mend_weight" fy ?r6) (fun fy => tabs "odd_parts" fy ?r7) (fun fy => tabs "small_odd_parts" fy ?r8) ?a0 ?a1 ?a2 ?a3 ?a4 ?a5 ?a6 ?a7 ?a8 ?a9 ?a10 ?a11 ?a12 ?a13 ?a14 ?a15 ?a16 ?a17 ?a18 ?a19 ?a20 ?a21 ?a22 ?a23 ?a24 ?a25 ?a26 ?a27 ?z0 ?z1 ?z2 ?z3 ?z4 ?z5 ?z6 ?z7 ?z8 ?z9 ?z10 ?z11 ?z12 ?z13 ?z14 ?e0 ?k0_0 ?k0_1 ?k0_2 ?k0_3 ?k0_4 ?k0_5 ?v0 ?n0
    (case r6 => rfl)
    (case r7 => rfl)
    (case r8 => rfl)
    (case a0 => refine' FF.at_mk ?p1 ?p2 ?p3 ?p4; (case p1 => k_is); (case p2 => k_is); (case p3 => k_is); (case p4 => k_is))
    (case a1 => refine' FF.at_mk ?p1 ?p2 ?p3 ?p4; (case p1 => k_is); (case p2 => k_is); (case p3 => k_is); (case p4 => k_is))
    (case a2 => refine' FF.at_mk ?p1 ?p2 ?p3 ?p4; (case p1 => k_is); (case p2 => k_is); (case p3 => k_is); (case p4 => k_is))
    (case a3 => refine' FF.at_mk ?p1 ?p2 ?p3 ?p4; (case p1 => k_is); (case p2 => k_is); (case p3 => k_is); (case p4 => k_is))
    (case a4 => refine' FF.at_mk ?p1 ?p2 ?p3 ?p4; (case p1 => k_is); (case p2 => k_is); (case p3 => k_is); (case p4 => k_is))
    (case a5 => refine' FF.at_mk ?p1 ?p2 ?p3 ?p4; (case p1 => k_is); (case p2 => k_is); (case p3 => k_is); (case p4 => k_is))
    (case a6 => refine' FF.atC_mk ?p1 ?p2 ?p3 ?p4 ?p5 ?p6 ?p7 ?p8 ?p9 ?p10 ?p11 ?p12 ?p13; (case p1 => k_is); (case p2 => k_is); (case p3 => k_is); (case p4 => k_is); (case p5 => k_is); (case p6 => rfl); (case p7 => rfl); (case p8 => rfl); (case p9 => rfl); (case p10 => rfl); (case p11 => rfl); (case p12 => decide); (case p13 => rfl))
    (case a7 => refine' FF.atC_mk ?p1 ?p2 ?p3 ?p4 ?p5 ?p6 ?p7 ?p8 ?p9 ?p10 ?p11 ?p12 ?p13; (case p1 => k_is); (case p2 => k_is); (case p3 => k_is); (case p4 => k_is); (case p5 => k_is); (case p6 => rfl); (case p7 => rfl); (case p8 => rfl); (case p9 => rfl); (case p10 => rfl); (case p11 => rfl); (case p12 => decide); (case p13 => rfl))
    (case a8 => refine' FF.atC_mk ?p1 ?p2 ?p3 ?p4 ?p5 ?p6 ?p7 ?p8 ?p9 ?p10 ?p11 ?p12 ?p13; (case p1 => k_is); (case p2 => k_is); (case p3 => k_is); (case p4 => k_is); (case p5 => k_is); (case p6 => rfl); (case p7 => rfl); (case p8 => rfl); (case p9 => rfl); (case p10 => rfl); (case p11 => rfl); (case p12 => decide); (case p13 => rfl))
    (case a9 => refine' FF.at_mk ?p1 ?p2 ?p3 ?p4; (case p1 => k_is); (case p2 => k_is); (case p3 => k_is); (case p4 => k_is))
    (case a10 => refine' FF.at_mk ?p1 ?p2 ?p3 ?p4; (case p1 => k_is); (case p2 => k_is); (case p3 => k_is); (case p4 => k_is))
    (case a11 => refine' FF.atD_mk ?p1 ?p2 ?p3 ?p4 ?p5 ?p6 ?p7 ?p8; (case p1 => k_is); (case p2 => k_is); (case p3 => k_is); (case p4 => k_is); (case p5 => k_is); (case p6 => rfl); (case p7 => exact .cons rfl .nil); (case p8 => exact fun z => nomatch z))
    (case a12 => refine' FF.at_mk ?p1 ?p2 ?p3 ?p4; (case p1 => k_is); (case p2 => k_is); (case p3 => k_is); (case p4 => k_is))
    (case a13 => refine' FF.at_mk ?p1 ?p2 ?p3 ?p4; (case p1 => k_is); (case p2 => k_is); (case p3 => k_is); (case p4 => k_is))
    (case a14 => refine' FF.at_mk ?p1 ?p2 ?p3 ?p4; (case p1 => k_is); (case p2 => k_is); (case p3 => k_is); (case p4 => k_is))
    (case a15 => refine' FF.atD_mk ?p1 ?p2 ?p3 ?p4 ?p5 ?p6 ?p7 ?p8; (case p1 => k_is); (case p2 => k_is); (case p3 => k_is); (case p4 => k_is); (case p5 => k_is); (case p6 => rfl); (case p7 => exact .cons rfl .nil); (case p8 => exact fun z => nomatch z))
    (case a16 => refine' FF.at_mk ?p1 ?p2 ?p3 ?p4; (case p1 => k_is); (case p2 => k_is); (case p3 => k_is); (case p4 => k_is))
    (case a17 => refine' FF.at_mk ?p1 ?p2 ?p3 ?p4; (case p1 => k_is); (case p2 => k_is); (case p3 => k_is); (case p4 => k_is))
    (case a18 => refine' FF.at_mk ?p1 ?p2 ?p3 ?p4; (case p1 => k_is); (case p2 => k_is); (case p3 => k_is); (case p4 => k_is))
    (case a19 => refine' FF.at_mk ?p1 ?p2 ?p3 ?p4; (case p1 => k_is); (case p2 => k_is); (case p3 => k_is); (case p4 => k_is))
    (case a20 => refine' FF.at_mk ?p1 ?p2 ?p3 ?p4; (case p1 => k_is); (case p2 => k_is); (case p3 => k_is); (case p4 => k_is))
    (case a21 => refine' FF.at_mk ?p1 ?p2 ?p3 ?p4; (case p1 => k_is); (case p2 => k_is); (case p3 => k_is); (case p4 => k_is))
    (case a22 => refine' FF.at_mk ?p1 ?p2 ?p3 ?p4; (case p1 => k_is); (case p2 => k_is); (case p3 => k_is); (case p4 => k_is))
    (case a23 => refine' FF.at_mk ?p1 ?p2 ?p3 ?p4; (case p1 => k_is); (case p2 => k_is); (case p3 => k_is); (case p4 => k_is))
    (case a24 => refine' FF.at_mk ?p1 ?p2 ?p3 ?p4; (case p1 => k_is); (case p2 => k_is); (case p3 => k_is); (case p4 => k_is))
    (case a25 => refine' FF.at_mk ?p1 ?p2 ?p3 ?p4; (case p1 => k_is); (case p2 => k_is); (case p3 => k_is); (case p4 => k_is))
    (case a26 => refine' FF.at_mk ?p1 ?p2 ?p3 ?p4; (case p1 => k_is); (case p2 => k_is); (case p3 => k_is); (case p4 => k_is))
    (case a27 => refine' FF.at_mk ?p1 ?p2 ?p3 ?p4; (case p1 => k_is); (case p2 => k_is); (case p3 => k_is); (case p4 => k_is))
    (case z0 => k_is)
    (case z1 => k_is)
    (case z2 => k_is)
    (case z3 => k_is)
    (case z4 => k_is)
    (case z5 => k_is)
    (case z6 => k_is)
    (case z7 => k_is)
    (case z8 => k_is)
    (case z9 => k_is)
    (case z10 => k_is)
    (case z11 => k_is)
    (case z12 => k_is)
    (case z13 => k_is)
    (case z14 => k_is)
    (case e0 => refine' FF.errK_mk ?q1 ?q2 ?q3 ?q4 ?q5 ?q6 ?q7 ?q8 ?q9 ?q10 ?q11 ?q12 ?q13 ?q14 ?q15 ?q16 ?q17; (case q1 => first | k_is | rfl | kernel_rfl); (case q2 => first | k_is | rfl | kernel_rfl); (case q3 => first | k_is | rfl | kernel_rfl); (case q4 => first | k_is | rfl | kernel_rfl); (case q5 => first | k_is | rfl | kernel_rfl); (case q6 => first | k_is | rfl | kernel_rfl); (case q7 => first | k_is | rfl | kernel_rfl); (case q8 => first | k_is | rfl | kernel_rfl); (case q9 => first | k_is | rfl | kernel_rfl); (case q10 => first | k_is | rfl | kernel_rfl); (case q11 => first | k_is | rfl | kernel_rfl); (case q12 => first | k_is | rfl | kernel_rfl); (case q13 => first | k_is | rfl | kernel_rfl); (case q14 => first | k_is | rfl | kernel_rfl); (case q15 => first | k_is | rfl | kernel_rfl); (case q16 => first | k_is | rfl | kernel_rfl); (case q17 => first | k_is | rfl | kernel_rfl))
    (case k0_0 => refine' FF.kitK_mk ?q1 ?q2; (case q1 => k_is); (case q2 => first | k_is | rfl | kernel_rfl))
    (case k0_1 => refine' FF.kitK_mk ?q1 ?q2; (case q1 => k_is); (case q2 => first | k_is | rfl | kernel_rfl))
    (case k0_2 => refine' FF.kitK_mk ?q1 ?q2; (case q1 => k_is); (case q2 => first | k_is | rfl | kernel_rfl))
    (case k0_3 => refine' FF.kitK_mk ?q1 ?q2; (case q1 => k_is); (case q2 => first | k_is | rfl | kernel_rfl))
    (case k0_4 => refine' FF.kitK_mk ?q1 ?q2; (case q1 => k_is); (case q2 => first | k_is | rfl | kernel_rfl))
    (case k0_5 => refine' FF.kitK_mk ?q1 ?q2; (case q1 => k_is); (case q2 => first | k_is | rfl | kernel_rfl))
    (case v0 => first | k_is | rfl | kernel_rfl)
    (case n0 => first | k_is | rfl | kernel_rfl)
