import PyProof.Rows.All
import Wide.All
import OpenK.AllK
import Wide.FinOn
import HandS.Text
import HandS.Iter
import HandS.Comp
import HandS.Set
import HandS.SetFor
import HandS.Strs
import PyProof.Rows.SortShellAny
import HandS.Style
import HandS.StrMore
import HandS.Wide
import HandS.WideBits
import HandS.RevRange
import HandS.IsInst
import HandS.Replace
import HandS.Conv
import HandS.Evl
import HandS.ForMost
import PyProof.ListStr
import KE.KRevSl
import HandS.Walk
import HandS.Rev
import HandS.Zip
import KE.GoesZip
import KE.GoesEnum
import KE.GoesMore
import KE.SortData
import KE.SortKeyHeap
import KE.KSortKey
import HandS.SortKw
import PyProof.ReprRoads
import PyProof.EqKinds
import HandS.OwnEq
import PyProof.FactsAll.dict_1
import HandS.TupAny
import PyProof.StrLawsIn
import PyProof.Rows.StrCase
import PyProof.Rows.ReprOcc
import HandS.MakeKwOnly
import PyProof.StrLawsRepr
import PyProof.ReprLen
import HandS.DictComp
import HandS.SetKeys
import HandS.WordsDict
import PySem.Challenge.RW_skipcounts_k15_whole_texts_in_place_of_o
import PyProof.StrBlock2
import KE.DataCmp
import KE.DataMinMax
import PyProof.Rows.RowBridgeK
import HandS.DictTup
import KE.KDictWalk
set_option Elab.async false
set_option linter.all false
set_option maxRecDepth 100000
set_option maxHeartbeats 4000000
/-! Sx: sets of texts: set(text), set(list of texts), sorted of such a set, its len -/
namespace Sx
open PySem PySem.Spec PyProof.Rows L2
section
variable {P : Program} {w : World} {κ : Type} [DecidableEq κ] {knd : PySem.KeyKind P w κ}
/-- what is known of the payload of a set: kn tells which keys are in, c how many -/
structure Pay (knd : PySem.KeyKind P w κ) (es : Array (Int × Value)) (t : SetTable) (kn : κ → Prop) (c : Nat) : Prop where
  el : ElemsOf knd es.toList
  mm : ∀ k, kn k ↔ ∃ e ∈ es.toList, knd.is k e.2 = true
  lt : es.size < scanBound
  ft : t.fits es.size = true
  sz : es.size = c
  ri : Ris t.place.toList
  ld : w.params.followText "set-order" = true ∨ t.led = true
def Has (knd : PySem.KeyKind P w κ) (h : Heap) (a : Addr) (kn : κ → Prop) (c : Nat) : Prop :=
  ∃ o es ep t, h.get? a = some o ∧ o.ExactSet ∧ o.data = .set es ep t ∧ Pay knd es t kn c
theorem Has.on {h h' : Heap} {a : Addr} {kn : κ → Prop} {c : Nat} (R : Has knd h a kn c) (k : ∀ o, h.get? a = some o → h'.get? a = some o) : Has knd h' a kn c :=
  let ⟨o, es, ep, t, ho, r⟩ := R
  ⟨o, es, ep, t, k o ho, r⟩
theorem Has.say {h : Heap} {a : Addr} {kn kn' : κ → Prop} {c c' : Nat} (R : Has knd h a kn c) (e : ∀ k, kn' k ↔ kn k) (ec : c' = c) : Has knd h a kn' c' := by
  obtain ⟨o, es, ep, t, ho, h1, h2, p⟩ := R
  exact ⟨o, es, ep, t, ho, h1, h2, ⟨p.el, fun k => (e k).trans (p.mm k), p.lt, p.ft, p.sz.trans ec.symm, p.ri, p.ld⟩⟩
end
section
variable {P : Program} {w : World} {κ : Type} [DecidableEq κ] {knd : PySem.KeyKind P w κ} {A : Around} {E : Value → Shared → Prop} {s : Shared} {a : Addr} {kn : κ → Prop} {c : Nat}
theorem store_put {h : Heap} {o : Obj} {es es' : Array (Int × Value)} {ep : Nat} {t t' : SetTable} (ho : h.get? a = some o) (hd : o.data = .set es ep t) :
    (h.update a (Obj.putSet es' t')).get? a = some { o with data := .set es' (ep + 1) t' } := L2.store_at ho hd
/-- the end of an add of something new -/
theorem tail_new {g : Bool → Sem Unit} (hg : ∀ (b : Bool) (s₁ : Shared) (Q' : Unit → Shared → Prop), Q' () s₁ → wpAny (model P w) A (g b) Q' E s₁)
    {o : Obj} {es : Array (Int × Value)} {ep : Nat} {t : SetTable} (ho : s.heap.get? a = some o) (hex : o.ExactSet) (hd : o.data = .set es ep t)
    {es1 : Array (Int × Value)} {t2 : SetTable} (p : Pay knd es1 t2 kn c) {dm : Bool} {R : Option Bool → Shared → Prop}
    (hR : ∀ h', Heap.SameBut a s.heap h' → Has knd h' a kn c → R (some true) { s with heap := h' }) :
    wpAny (model P w) A (do
        storeSet a es1 t2
        if (!dm && t2.tooFull) = true then do
            g (relayAll t2 es1 (SetTable.grown es1.size)).2.2
            storeSet a (relayAll t2 es1 (SetTable.grown es1.size)).1 (relayAll t2 es1 (SetTable.grown es1.size)).2.1
            pure (some true)
          else pure (some true)) R E s := by
  have sb := Heap.SameBut.update s.heap a (Obj.putSet es1 t2)
  refine wpAny_bind (wpAny_storeSet_of ho hd ?_ (fits_of_scanBound p.lt))
  have here := store_put (es' := es1) (t' := t2) ho hd
  split
  · have q1 := relayAll_perm t2 es1 (SetTable.grown es1.size)
    have q2 := relayAll_fits t2 es1 (SetTable.grown es1.size)
    have q3 := relayAll_ris t2 es1 (SetTable.grown es1.size)
    have q4 := relayAll_led t2 es1 (SetTable.grown es1.size)
    generalize relayAll t2 es1 (SetTable.grown es1.size) = Z at q1 q2 q3 q4 ⊢
    obtain ⟨es2, t3, gv⟩ := Z
    dsimp only at q1 q2 q3 q4 ⊢
    have zz : es2.size = es1.size := by rw [← Array.length_toList, q1.length_eq, Array.length_toList]
    have lt2 : es2.size < scanBound := by rw [zz]; exact p.lt
    refine wpAny_bind (hg _ _ _ ?_)
    refine wpAny_bind (wpAny_storeSet_of here rfl ?_ (fits_of_scanBound lt2))
    have there := store_put (es' := es2) (t' := t3) here rfl
    refine wpAny_pure (hR _ (sb.trans (Heap.SameBut.update _ a _)) ⟨_, es2, _, t3, there, hex, rfl, p.el.perm q1, fun k => (p.mm k).trans ?_, lt2, q2, zz.trans p.sz, q3, p.ld.imp id fun z => by rw [q4]; exact z⟩)
    exact ⟨fun ⟨e, he, x⟩ => ⟨e, q1.mem_iff.mpr he, x⟩, fun ⟨e, he, x⟩ => ⟨e, q1.mem_iff.mp he, x⟩⟩
  · exact wpAny_pure (hR _ sb ⟨_, es1, _, t2, here, hex, rfl, p⟩)
/-- one more key: the count goes up if it was not in -/
theorem add_one {k : κ} {x : Value} {Q : Bool → Shared → Prop} (hk : knd.is k x = true) (hx : x.scannable = true) (R : Has knd s.heap a kn c) (room : c + 1 < scanBound)
    (hin : kn k → ∀ h', Heap.SameBut a s.heap h' → Has knd h' a kn c → Q false { s with heap := h' })
    (hnew : ¬ kn k → ∀ h', Heap.SameBut a s.heap h' → Has knd h' a (fun j => kn j ∨ j = k) (c + 1) → Q true { s with heap := h' }) :
    wpAny (model P w) A (setAddHashed a x (knd.hash k)) Q E s := by
  obtain ⟨o, es, ep, t, ho, hex, hd, p⟩ := R
  unfold setAddHashed setAddHashedIn
  refine wpAny_holding (wpAny_bind (wpAny_setState_of ho hd p.ft ?_))
  dsimp only
  rw [byScan_of hx p.lt p.el]
  simp only [↓reduceIte]
  unfold setAddByScan
  refine wpAny_bind (wpAny_bind (wpAny_rule ?_))
  refine wpAny_bind (wpAny_setScan_of hk ho hd p.ft p.el ?_)
  cases hf : List.findIdx? (fun e => knd.is k e.2) es.toList with
  | some j =>
    dsimp only
    obtain ⟨lj, pj, _⟩ := List.findIdx?_eq_some_iff_getElem.mp hf
    refine wpAny_pure (wpAny_pure ?_)
    exact hin ((p.mm k).mpr ⟨es.toList[j], List.getElem_mem lj, pj⟩) s.heap (Heap.SameBut.refl a s.heap) ⟨o, es, ep, t, ho, hex, hd, p⟩
  | none =>
    dsimp only
    have out : ¬ kn k := fun z => by
      obtain ⟨e, he, hp⟩ := (p.mm k).mp z
      have := List.findIdx?_eq_none_iff.mp hf e he
      rw [hp] at this
      exact Bool.noConfusion this
    have gw : ∀ (b : Bool) {s₁ : Shared} {Q' : Unit → Shared → Prop}, Q' () s₁ → wpAny (model P w) A (match b with | true => rule "set.scan.the-table-gave-way" | false => pure ()) Q' E s₁ := by
      intro b s₁ Q' q
      cases b
      · exact wpAny_pure q
      · exact wpAny_rule q
    have q1 := layNew_perm t es (knd.hash k) x
    have q2 := layNew_fits t es (knd.hash k) x
    have q3 := layNew_ris t es (knd.hash k) x p.ri
    have q4 := layNew_led t es (knd.hash k) x
    generalize layNew t es (knd.hash k) x = L at q1 q2 q3 q4 ⊢
    obtain ⟨es1, t1, dm, gv⟩ := L
    dsimp only at q1 q2 q3 q4 ⊢
    rw [Array.toList_push] at q1
    have z1 : es1.size = c + 1 := by
      rw [← Array.length_toList, q1.length_eq, List.length_append, Array.length_toList, p.sz]
      rfl
    have mm1 : ∀ j, (kn j ∨ j = k) ↔ ∃ e ∈ es1.toList, knd.is j e.2 = true := by
      intro j
      constructor
      · rintro (z | rfl)
        · obtain ⟨e, he, q⟩ := (p.mm j).mp z
          exact ⟨e, q1.mem_iff.mpr (List.mem_append_left _ he), q⟩
        · exact ⟨_, q1.mem_iff.mpr (List.mem_append_right _ (List.mem_singleton.mpr rfl)), hk⟩
      · rintro ⟨e, he, q⟩
        rcases List.mem_append.mp (q1.mem_iff.mp he) with z | z
        · exact Or.inl ((p.mm j).mpr ⟨e, z, q⟩)
        · rw [List.mem_singleton] at z
          rw [z] at q
          exact Or.inr (knd.inj x j k q hk)
    have py : ∀ t' : SetTable, t'.fits es1.size = true → Ris t'.place.toList → t'.led = t1.led → Pay knd es1 t' (fun j => kn j ∨ j = k) (c + 1) := fun t' f r l =>
      ⟨(p.el.push hk hx).perm q1, mm1, by rw [z1]; exact room, f, z1, r, p.ld.imp id fun z => by rw [l, q4]; exact z⟩
    refine wpAny_bind (gw _ ?_)
    split
    · refine wpAny_bind ?_
      rw [hashByValue_scannable 8 hx]
      refine wpAny_pure ?_
      refine tail_new (knd := knd) (kn := fun j => kn j ∨ j = k) (c := c + 1) ?_ ho hex hd (py _ ?_ ?_ ?_) ?_
      · intro b s₁ Q' q
        cases b
        · exact wpAny_pure q
        · exact wpAny_rule q
      · split
        · exact q2
        · exact SetTable.fits_plain_off q2
      · split <;> exact q3
      · split <;> rfl
      · intro h' sb r
        dsimp only
        exact wpAny_pure (hnew out h' sb r)
    · refine wpAny_bind (wpAny_pure ?_)
      simp only [↓reduceIte]
      refine tail_new (knd := knd) (kn := fun j => kn j ∨ j = k) (c := c + 1) ?_ ho hex hd (py _ q2 q3 rfl) ?_
      · intro b s₁ Q' q
        cases b
        · exact wpAny_pure q
        · exact wpAny_rule q
      · intro h' sb r
        dsimp only
        exact wpAny_pure (hnew out h' sb r)
theorem has_fresh {h : Heap} : Has knd (h.push { cls := .type "set", dict := none, data := .set #[] 0 (.fresh 0 0 (!w.params.followText "set-order")) }) h.objs.size (fun _ => False) 0 :=
  ⟨_, #[], 0, _, Heap.get?_push_size _ rfl, ⟨rfl, rfl, rfl⟩, rfl, (fun e he => by simp at he), (fun k => by simp), (by decide), (by rfl), rfl, List.Pairwise.nil, by
    show _ ∨ (!w.params.followText "set-order") = true
    cases w.params.followText "set-order"
    · exact Or.inr rfl
    · exact Or.inl rfl⟩
end
end Sx
set_option Elab.async false
set_option linter.all false
set_option maxRecDepth 100000
set_option maxHeartbeats 4000000
namespace Sx
open PySem PySem.Spec PyProof.Rows L2
/-- the unlike ones of a list, each where it comes first -/
def uniq {κ : Type} [DecidableEq κ] : List κ → List κ → List κ
  | acc, [] => acc
  | acc, k :: r => uniq (if k ∈ acc then acc else acc ++ [k]) r
theorem uniq_mem {κ : Type} [DecidableEq κ] : ∀ (ks acc : List κ) (k : κ), k ∈ uniq acc ks ↔ k ∈ acc ∨ k ∈ ks
  | [], acc, k => by simp [uniq]
  | x :: r, acc, k => by
    rw [uniq, uniq_mem r]
    by_cases h : x ∈ acc
    · rw [if_pos h]
      constructor
      · rintro (z | z)
        · exact Or.inl z
        · exact Or.inr (List.mem_cons_of_mem _ z)
      · rintro (z | z)
        · exact Or.inl z
        · rcases List.mem_cons.mp z with e | e
          · subst e; exact Or.inl h
          · exact Or.inr e
    · rw [if_neg h, List.mem_append, List.mem_singleton, List.mem_cons, or_assoc]
theorem uniq_nodup {κ : Type} [DecidableEq κ] : ∀ (ks acc : List κ), acc.Nodup → (uniq acc ks).Nodup
  | [], acc, h => h
  | x :: r, acc, h => by
    rw [uniq]
    apply uniq_nodup r
    by_cases g : x ∈ acc
    · rw [if_pos g]; exact h
    · rw [if_neg g]
      rw [List.nodup_append]
      refine ⟨h, by simp, fun a ha b hb => ?_⟩
      rw [List.mem_singleton] at hb
      subst hb
      exact fun e => g (e ▸ ha)
theorem uniq_len {κ : Type} [DecidableEq κ] : ∀ (ks acc : List κ), (uniq acc ks).length ≤ acc.length + ks.length
  | [], acc => by simp [uniq]
  | x :: r, acc => by
    rw [uniq]
    have q := uniq_len r (if x ∈ acc then acc else acc ++ [x])
    have z : (if x ∈ acc then acc else acc ++ [x]).length ≤ acc.length + 1 := by
      split
      · omega
      · simp
    simp only [List.length_cons]
    omega
theorem uniq_snoc {κ : Type} [DecidableEq κ] : ∀ (ks acc : List κ) (k : κ), uniq acc (ks ++ [k]) = if k ∈ uniq acc ks then uniq acc ks else uniq acc ks ++ [k]
  | [], acc, k => rfl
  | x :: r, acc, k => by
    rw [List.cons_append, uniq, uniq_snoc r, uniq]
/-- all unlike exactly if none goes -/
theorem uniq_all {κ : Type} [DecidableEq κ] : ∀ (ks acc : List κ), acc.Nodup → ((uniq acc ks).length = acc.length + ks.length ↔ (acc ++ ks).Nodup)
  | [], acc, h => by simp [uniq, h]
  | x :: r, acc, h => by
    rw [uniq]
    by_cases g : x ∈ acc
    · rw [if_pos g]
      have q := uniq_len r acc
      constructor
      · intro z
        simp only [List.length_cons] at z
        omega
      · intro z
        rw [List.nodup_append] at z
        exact absurd rfl (z.2.2 x g x List.mem_cons_self)
    · rw [if_neg g]
      have hn : (acc ++ [x]).Nodup := by
        rw [List.nodup_append]
        refine ⟨h, by simp, fun a ha b hb => ?_⟩
        rw [List.mem_singleton] at hb
        subst hb
        exact fun e => g (e ▸ ha)
      have q := uniq_all r (acc ++ [x]) hn
      rw [List.append_assoc] at q
      simp only [List.length_append, List.length_cons, List.length_nil] at q ⊢
      rw [← show acc ++ x :: r = acc ++ ([x] ++ r) from rfl] at q
      rw [← q]
      omega
section
variable {P : Program} {w : World} {κ : Type} [DecidableEq κ] {knd : PySem.KeyKind P w κ} {A : Around} {E : Value → Shared → Prop} {s : Shared}
/-- the keys l, all unlike, are what the set at a has -/
def Lst (knd : PySem.KeyKind P w κ) (h : Heap) (a : Addr) (l : List κ) : Prop := Has knd h a (fun k => k ∈ l) l.length
theorem add_lst {a : Addr} {l : List κ} {k : κ} {x : Value} {Q : Bool → Shared → Prop} (hk : knd.is k x = true) (hx : x.scannable = true) (R : Lst knd s.heap a l) (room : l.length + 1 < scanBound)
    (hQ : ∀ (b : Bool) h', Heap.SameBut a s.heap h' → Lst knd h' a (if k ∈ l then l else l ++ [k]) → Q b { s with heap := h' }) :
    wpAny (model P w) A (setAddHashed a x (knd.hash k)) Q E s := by
  refine add_one (knd := knd) hk hx R room (fun hin h' sb hS2 => hQ _ h' sb ?_) (fun hnew h' sb hS2 => hQ _ h' sb ?_)
  · rw [if_pos hin]
    exact hS2
  · rw [if_neg hnew]
    refine Has.say hS2 (fun j => ?_) (by rw [List.length_append]; rfl)
    rw [List.mem_append, List.mem_singleton]
theorem upd_loop {I : Addr} {fp wr : List Addr} {G : Array GenState → Array GenState → Prop} {n : Nat} {Pv : Nat → Value → Prop} {St : Nat → Shared → Prop} {R : Result → Shared → Prop}
    (W : WalksS P w A.in1 I fp wr G n Pv St) (S : Addr) (out : S ∉ fp) (ks : List κ) (hn : n = ks.length) (hb : ks.length + 1 < scanBound) (hval : ∀ i v, Pv i v → ∃ k, ks[i]? = some k ∧ knd.is k v = true ∧ v.scannable = true) :
    ∀ (k i : Nat) (s : Shared), n - i = k → i ≤ n → St i s → Lst knd s.heap S (uniq [] (ks.take i)) →
      (∀ s', Moved (S :: wr) G s s' → Lst knd s'.heap S (uniq [] ks) → R (.ok (.ret .none)) s') →
      codeAny (model P w) A (.builtin "set.update.loop" ⟨[.ref S, .ref I], []⟩) R s := by
  have hw : S ∉ wr := fun h => out (W.sub _ h)
  have sub : ∀ b ∈ wr, b ∈ S :: wr := fun b hb => List.mem_cons_of_mem _ hb
  intro k
  induction k with
  | zero =>
    intro i s hk hi hst hS hR
    have e0 : i = n := by omega
    subst e0
    refine codeAny_builtin F.entry_set_update_loop ?_
    rw [Around.under_plainId F.plain_set_update_loop _]
    show wpAny _ A.in1 (pyNext (.ref I) >>= _) _ _ s
    refine wpAny_bind (W.done s _ _ hst fun s' hm => ?_)
    show wpAny _ A.in1 (ret Value.none) _ _ s'
    rw [List.take_of_length_le (by omega)] at hS
    exact wpAny_pure (hR s' (hm.mono sub) (Has.on hS fun o e => hm.heap S o hw e))
  | succ k ih =>
    intro i s hk hi hst hS hR
    have lt : i < n := by omega
    refine codeAny_builtin F.entry_set_update_loop ?_
    rw [Around.under_plainId F.plain_set_update_loop _]
    show wpAny _ A.in1 (pyNext (.ref I) >>= _) _ _ s
    refine wpAny_bind (W.item i s _ _ lt hst fun v s' hP hst' hm => ?_)
    obtain ⟨z, hz, iz, sv⟩ := hval i v hP
    have hS' : Lst knd s'.heap S (uniq [] (ks.take i)) := Has.on hS fun o e => hm.heap S o hw e
    show wpAny _ A.in1 (holding [v] (setAdd S v) >>= _) _ _ s'
    refine wpAny_bind (wpAny_holding ?_)
    unfold setAdd
    refine wpAny_holding ?_
    refine wpAny_bind (knd.pyHash (k := z) iz ?_)
    have ln := uniq_len (ks.take i) []
    rw [List.length_take, List.length_nil] at ln
    have tk : ks.take (i + 1) = ks.take i ++ [z] := by
      rw [List.take_add_one, hz]
      rfl
    refine add_lst (s := { s' with toks := s'.toks + 1 }) iz sv hS' (by omega) fun bb h' sb hS2 => ?_
    have hS3 : Lst knd h' S (uniq [] (ks.take (i + 1))) := by
      rw [tk, uniq_snoc]
      exact hS2
    refine wpAny_pure ⟨plainId_quiet F.plain_set_update_loop _, ih (i + 1) _ (by omega) lt (W.frame _ s' _ _ hst' (Nat.le_succ _) fun b hb o e => ?_) hS3 fun s'' hm2 hS4 => ?_⟩
    · rw [sb.2 b (fun h : b = S => out (by rw [← h]; exact hb))]; exact e
    · refine hR s'' (Moved.trans W.gtrans ((hm.mono sub).then_heap (Nat.le_succ _) fun b o hb e => ?_) hm2) hS4
      rw [sb.2 b (fun h : b = S => hb (by rw [h]; exact List.mem_cons_self))]; exact e
end
end Sx
set_option Elab.async false
set_option linter.all false
set_option maxRecDepth 100000
set_option maxHeartbeats 4000000
namespace Sx
open PySem PySem.Spec PyProof.Rows L2
section
variable {P : Program} {w : World} {A : Around} {E : Value → Shared → Prop} {s : Shared}
abbrev kT (P : Program) (w : World) : PySem.KeyKind P w Str := PySem.strKind P w
abbrev nset (w : World) : Obj := { cls := .type "set", dict := none, data := .set #[] 0 (.fresh 0 0 (!w.params.followText "set-order")) }
theorem lst_new {h : Heap} {a : Addr} (ho : h.get? a = some (nset w)) : Lst (kT P w) h a [] :=
  ⟨_, #[], 0, _, ho, ⟨rfl, rfl, rfl⟩, rfl, (fun e he => by simp at he), (fun k => by simp), (by decide), (by rfl), rfl, List.Pairwise.nil, by
    show _ ∨ (!w.params.followText "set-order") = true
    cases w.params.followText "set-order"
    · exact Or.inr rfl
    · exact Or.inl rfl⟩
theorem is_txt (k : Str) (u : Tok) : (kT P w).is k (.str k u) = true := by
  show Value.isStrOf k (.str k u) = true
  simp [Value.isStrOf]
/-- the signs of a text, each as a text -/
def sgs (x : Str) : List Str := x.cps.toList.map fun c => ⟨#[c]⟩
set_option maxRecDepth 100000 in
set_option maxHeartbeats 8000000 in
theorem set_of_text {x : Str} {t : Tok} {Q : Value → Shared → Prop} (hh : A.handled = none) (ha : x.cps.all (· < 128) = true) (hb : x.cps.size + 1 < scanBound)
    (h : ∀ (h' : Heap) (tk : Nat), Lst (kT P w) h' s.heap.objs.size (uniq [] (sgs x)) → (∀ b o, s.heap.get? b = some o → h'.get? b = some o) → Q (.ref s.heap.objs.size) { s with heap := h', toks := tk }) :
    wpAny (model P w) A (call (.type "set") [.str x t]) Q E s := by
  obtain ⟨c, tl, hmro⟩ := F.called_set.mro
  have hmade := F.called_set.made
  have hsub := F.called_set.sub
  refine wpAny_call (codeAny_of_tree ?_)
  show wpAny _ _ (callAny (.type "set") _) _ _ _
  refine wpAny_pure ⟨Code.quiet_builtin _ (by decide +kernel), codeAny_builtin F.entry_type_call ?_⟩
  rw [Around.under_plain (weight_type_call_type "set" [.str x t] []) rfl]
  have h1 := F.called_set.notType
  have h2 := F.called_set.canCreate
  have hct := F.typeCall_set_1 (.str x t)
  repeat (any_goals (first | assumption | wp_step))
  refine codeAny_mono (code_set_led1 (.str x t) (E := E) (Q₁ := fun obj s₁ => obj = .ref s.heap.objs.size ∧ s₁ = { s with heap := s.heap.push (nset w) }) ⟨rfl, rfl⟩) fun r s₁ hr => ?_
  cases r with
  | error e => exact hr
  | ok fl =>
    cases fl with
    | ret obj =>
      obtain ⟨rfl, rfl⟩ := hr
      have hS : (s.heap.push (nset w)).get? s.heap.objs.size = some (nset w) := Heap.get?_push_size _ rfl
      have hT : Shared.TypeIs { s with heap := s.heap.push (nset w) } (.ref s.heap.objs.size) "set" := ⟨_, hS, rfl⟩
      have hli := F.called_set.init.lookup
      have hbi := F.called_set.init.bind (.ref s.heap.objs.size)
      repeat (any_goals (first | assumption | wp_step))
      refine codeAny_mono (codeAny_call_builtin (R := wants (fun r s₂ => r = .none ∧ ∃ h' tk, s₂ = { s with heap := h', toks := tk } ∧ Lst (kT P w) h' s.heap.objs.size (uniq [] (sgs x)) ∧
          (∀ b o, s.heap.get? b = some o → h'.get? b = some o)) E) F.called_set.init.plain F.entry_set_init (check_set_init_1 hT ?_)) fun r₂ s₂ hr₂ => ?_
      · have hs1 := F.sub_str_set
        have hs2 := F.sub_str_frozenset
        have hne : (Value.type "str" == Value.type "dict") = false := by decide
        unfold Builtin.«set.__init__» noKeywords Builtin.Frozenset.updateFrom
        generalize hPI : pyIter = PI
        wp_walk
        subst hPI
        refine wpAny_pyIter_ascii ha ?_
        refine wpAny_bind (wpAny_runValue ?_)
        have hh3 : A.in1.in1.in1.handled = none := by simp [hh]
        have neI : s.heap.objs.size ∉ [(s.heap.push (nset w)).objs.size] := by
          rw [Heap.size_push, List.mem_singleton]
          exact Nat.ne_of_lt (Nat.lt_succ_self _)
        have hl : x.cps.size = (sgs x).length := by
          unfold sgs
          rw [List.length_map, Array.length_toList]
        refine upd_loop (knd := kT P w) ((Walks.strAscii hh3 _ x t).toS) s.heap.objs.size neI (sgs x) hl (by rw [← hl]; exact hb) (fun i v hv => ?_) (x.cps.size - 0) 0 _ (by omega) (Nat.zero_le _)
          ⟨_, Heap.get?_push_size _ rfl, rfl, rfl⟩ (lst_new (Heap.get?_push_of_some _ hS)) fun s' hm hS' => ?_
        · obtain ⟨c, u, hc, rfl⟩ := hv
          refine ⟨⟨#[c]⟩, ?_, is_txt _ _, rfl⟩
          unfold sgs
          rw [List.getElem?_map, Array.getElem?_toList, hc]
          rfl
        · obtain ⟨h', g2, d', tk', os'⟩ := s'
          have eg : g2 = s.gens := hm.gens
          have ed : d' = s.drawn := hm.drawn
          have eo : os' = s.os := hm.os
          subst eg; subst ed; subst eo
          show wpAny _ _ _ _ _ _
          refine wpAny_pure ?_
          show wpAny _ _ (ret Value.none) _ _ _
          refine wpAny_pure ⟨rfl, h', tk', rfl, hS', fun b o e => ?_⟩
          have b0 : b < s.heap.objs.size := Heap.lt_size e
          refine hm.heap b o (fun z => ?_) (Heap.get?_push_of_some _ (Heap.get?_push_of_some _ e))
          rcases List.mem_cons.mp z with z | z
          · rw [z] at b0
            exact Nat.lt_irrefl _ b0
          · rw [List.mem_singleton, Heap.size_push] at z
            rw [z] at b0
            exact Nat.lt_irrefl _ (Nat.lt_trans (Nat.lt_succ_self _) b0)
      · cases r₂ with
        | error e => exact hr₂
        | ok fl₂ =>
          cases fl₂ with
          | ret r =>
            obtain ⟨rfl, h', tk, rfl, hS', hk'⟩ := hr₂
            repeat (any_goals (first | assumption | wp_step))
            exact h _ _ hS' hk'
          | _ => exact hr₂.elim
    | _ => exact hr.elim
set_option maxRecDepth 100000 in
set_option maxHeartbeats 8000000 in
theorem set_of_list {l : Addr} {items : Array Value} {xs : List Str} {Q : Value → Shared → Prop} (hh : A.handled = none) (hl : s.heap.IsList l items) (hit : StrsAre items.toList xs) (hb : xs.length + 1 < scanBound)
    (h : ∀ (h' : Heap) (tk : Nat), Lst (kT P w) h' s.heap.objs.size (uniq [] xs) → (∀ b o, s.heap.get? b = some o → h'.get? b = some o) → Q (.ref s.heap.objs.size) { s with heap := h', toks := tk }) :
    wpAny (model P w) A (call (.type "set") [.ref l]) Q E s := by
  obtain ⟨c, tl, hmro⟩ := F.called_set.mro
  have hmade := F.called_set.made
  have hsub := F.called_set.sub
  refine wpAny_call (codeAny_of_tree ?_)
  show wpAny _ _ (callAny (.type "set") _) _ _ _
  refine wpAny_pure ⟨Code.quiet_builtin _ (by decide +kernel), codeAny_builtin F.entry_type_call ?_⟩
  rw [Around.under_plain (weight_type_call_type "set" [.ref l] []) rfl]
  have h1 := F.called_set.notType
  have h2 := F.called_set.canCreate
  have hct := F.typeCall_set_1 (Value.ref l)
  repeat (any_goals (first | assumption | wp_step))
  refine codeAny_mono (code_set_led1 (Value.ref l) (E := E) (Q₁ := fun obj s₁ => obj = .ref s.heap.objs.size ∧ s₁ = { s with heap := s.heap.push (nset w) }) ⟨rfl, rfl⟩) fun r s₁ hr => ?_
  cases r with
  | error e => exact hr
  | ok fl =>
    cases fl with
    | ret obj =>
      obtain ⟨rfl, rfl⟩ := hr
      have hS : (s.heap.push (nset w)).get? s.heap.objs.size = some (nset w) := Heap.get?_push_size _ rfl
      have hT : Shared.TypeIs { s with heap := s.heap.push (nset w) } (.ref s.heap.objs.size) "set" := ⟨_, hS, rfl⟩
      have hli := F.called_set.init.lookup
      have hbi := F.called_set.init.bind (.ref s.heap.objs.size)
      repeat (any_goals (first | assumption | wp_step))
      refine codeAny_mono (codeAny_call_builtin (R := wants (fun r s₂ => r = .none ∧ ∃ h' tk, s₂ = { s with heap := h', toks := tk } ∧ Lst (kT P w) h' s.heap.objs.size (uniq [] xs) ∧
          (∀ b o, s.heap.get? b = some o → h'.get? b = some o)) E) F.called_set.init.plain F.entry_set_init (check_set_init_1 hT ?_)) fun r₂ s₂ hr₂ => ?_
      · obtain ⟨ol, hol, hcl, nl, hdl⟩ := hl
        obtain ⟨ocls, odict, odata, oslots⟩ := ol
        simp only at hcl hdl
        subst hcl; subst hdl
        have hol' : (s.heap.push (nset w)).get? l = some { cls := .type "list", dict := odict, data := .seq items nl, slots := oslots } := Heap.get?_push_of_some _ hol
        have hl1 : (s.heap.push (nset w)).IsList l items := ⟨_, hol', rfl, nl, rfl⟩
        have hs1 := F.sub_list_set
        have hs2 := F.sub_list_frozenset
        have hne : (Value.type "list" == Value.type "dict") = false := by decide
        unfold Builtin.«set.__init__» noKeywords Builtin.Frozenset.updateFrom
        generalize hPI : pyIter = PI
        wp_walk
        subst hPI
        refine wpAny_pyIter_list hl1 ?_
        refine wpAny_bind (wpAny_runValue ?_)
        have hh3 : A.in1.in1.in1.handled = none := by simp [hh]
        have lS : l < s.heap.objs.size := Heap.lt_size hol
        have hneI : l ≠ (s.heap.push (nset w)).objs.size := by
          rw [Heap.size_push]
          exact Nat.ne_of_lt (Nat.lt_succ_of_lt lS)
        have neI : s.heap.objs.size ∉ [(s.heap.push (nset w)).objs.size, l] := by
          rw [Heap.size_push]
          simp only [List.mem_cons, List.mem_singleton, List.not_mem_nil, or_false, not_or]
          exact ⟨Nat.ne_of_lt (Nat.lt_succ_self _), Nat.ne_of_gt lS⟩
        have hl : items.size = xs.length := by
          have q := StrsAre.len_eq hit
          rw [Array.length_toList] at q
          exact q
        refine upd_loop (knd := kT P w) ((Walks.list hh3 _ l hneI items).toS) s.heap.objs.size neI xs hl hb (fun i v hv => ?_) (items.size - 0) 0 _ (by omega) (Nat.zero_le _)
          ⟨⟨_, Heap.get?_push_size _ rfl, rfl, rfl⟩, (hl1.push _)⟩ (lst_new (Heap.get?_push_of_some _ hS)) fun s' hm hS' => ?_
        · have hi : i < xs.length := by rw [← hl]; exact (Array.getElem?_eq_some_iff.mp hv).1
          obtain ⟨u, e⟩ := SS.strs_at hit i v (by rw [Array.getElem?_toList]; exact hv)
          refine ⟨xs[i], List.getElem?_eq_getElem hi, ?_, by rw [e]; rfl⟩
          rw [e, List.getD_eq_getElem?_getD, List.getElem?_eq_getElem hi]
          exact is_txt _ _
        · obtain ⟨h', g2, d', tk', os'⟩ := s'
          have eg : g2 = s.gens := hm.gens
          have ed : d' = s.drawn := hm.drawn
          have eo : os' = s.os := hm.os
          subst eg; subst ed; subst eo
          show wpAny _ _ _ _ _ _
          refine wpAny_pure ?_
          show wpAny _ _ (ret Value.none) _ _ _
          refine wpAny_pure ⟨rfl, h', tk', rfl, hS', fun b o e => ?_⟩
          have b0 : b < s.heap.objs.size := Heap.lt_size e
          refine hm.heap b o (fun z => ?_) (Heap.get?_push_of_some _ (Heap.get?_push_of_some _ e))
          rcases List.mem_cons.mp z with z | z
          · rw [z] at b0
            exact Nat.lt_irrefl _ b0
          · rw [List.mem_singleton, Heap.size_push] at z
            rw [z] at b0
            exact Nat.lt_irrefl _ (Nat.lt_trans (Nat.lt_succ_self _) b0)
      · cases r₂ with
        | error e => exact hr₂
        | ok fl₂ =>
          cases fl₂ with
          | ret r =>
            obtain ⟨rfl, h', tk, rfl, hS', hk'⟩ := hr₂
            repeat (any_goals (first | assumption | wp_step))
            exact h _ _ hS' hk'
          | _ => exact hr₂.elim
    | _ => exact hr.elim
end
end Sx
set_option Elab.async false
set_option linter.all false
set_option maxRecDepth 100000
set_option maxHeartbeats 4000000
namespace Sx
open PySem PySem.Spec PyProof.Rows L2
section
variable {P : Program} {w : World} {A : Around} {E : Value → Shared → Prop} {s : Shared}
theorem perm_of {κ : Type} [DecidableEq κ] : ∀ (l ks : List κ), l.Nodup → (∀ k ∈ l, k ∈ ks) → ks.length ≤ l.length → ks.Perm l
  | [], ks, _, _, h => by
    have e : ks = [] := List.eq_nil_of_length_eq_zero (Nat.le_zero.mp h)
    rw [e]
  | x :: l, ks, nd, hm, h => by
    obtain ⟨nx, nl⟩ := List.nodup_cons.mp nd
    have hx := hm x List.mem_cons_self
    refine (List.perm_cons_erase hx).trans (List.Perm.cons x (perm_of l (ks.erase x) nl (fun k hk => ?_) ?_))
    · exact (List.mem_erase_of_ne (fun e : k = x => nx (by rw [← e]; exact hk))).mpr (hm k (List.mem_cons_of_mem _ hk))
    · rw [List.length_erase_of_mem hx]
      rw [List.length_cons] at h
      omega
theorem strs_list : ∀ (l : List Value), (∀ v ∈ l, ∃ (k : Str) (u : Tok), v = Value.str k u) → ∃ ks : List Str, StrsAre l ks
  | [], _ => ⟨[], .nil⟩
  | v :: l, h => by
    obtain ⟨k, u, rfl⟩ := h v List.mem_cons_self
    obtain ⟨ks, r⟩ := strs_list l fun z hz => h z (List.mem_cons_of_mem _ hz)
    exact ⟨k :: ks, .cons k u r⟩
theorem strs_mem : ∀ {l : List Value} {ks : List Str}, StrsAre l ks → ∀ k, k ∈ ks ↔ ∃ u, Value.str k u ∈ l
  | _, _, .nil, k => by simp
  | _, _, .cons n t r, k => by
    rw [List.mem_cons, strs_mem r k]
    constructor
    · rintro (rfl | ⟨u, h⟩)
      · exact ⟨t, List.mem_cons_self⟩
      · exact ⟨u, List.mem_cons_of_mem _ h⟩
    · rintro ⟨u, h⟩
      rcases List.mem_cons.mp h with e | e
      · injection e with e1 _
        exact Or.inl e1
      · exact Or.inr ⟨u, e⟩
theorem txt_val {k : Str} {v : Value} (h : (kT P w).is k v = true) : ∃ u, v = .str k u := Value.isStrOf_shape (x := k) (v := v) h
theorem len_set {a : Addr} {l : List Str} {Q : Value → Shared → Prop} (R : Lst (kT P w) s.heap a l) (hl : l.length < 2 ^ 60) (h : Q (.int l.length (s.toks + 1)) { s with toks := s.toks + 1 + 1 }) : wpAny (model P w) A (call (.builtin "len") [.ref a]) Q E s := by
  obtain ⟨o, es, ep, t, ho, hex, hd, p⟩ := R
  have e : es.size = l.length := p.sz
  refine call_len_set ho hex hd p.ft (by rw [e]; omega) ?_
  rw [e]
  exact h
theorem sorted_set {a : Addr} {l : List Str} (nd : l.Nodup) {Q : Value → Shared → Prop} (R : Lst (kT P w) s.heap a l) (hh : A.handled = none)
    (hQ : ∀ s' p (out : Array Value) (c : Nat) (ns : List Str), (∀ b o, s.heap.get? b = some o → s'.heap.get? b = some o) → s'.gens = s.gens → s'.os = s.os → s.heap.objs.size ≤ p →
      s'.heap.get? p = some (seqObj "list" out c) → StrsAre out.toList ns → ns.Perm l → sortedS ns = true → Q (.ref p) s') :
    wpAny (model P w) A (call (.builtin "sorted") [.ref a]) Q E s := by
  obtain ⟨o, es, ep, t, ho, hex, hd, p⟩ := R
  refine Calls.call_function_entry kind_sorted plain_sorted entry_sorted (args_sorted1 _) ?_
  unfold Builtin.«sorted»
  refine wpAny_bind (m := checkCount "sorted" 1 1 _) (wpAny_pure ?_)
  refine wpAny_bind (L2.collect_set (A := A.in1) hh ⟨o, ho, hex.1, hd⟩ p.ft p.lt p.ri p.ld fun s1 vs k1 hz g1 o1 pm => ?_)
  have hvl : vs.length = l.length := by rw [pm.length_eq, List.length_map, Array.length_toList]; exact p.sz
  obtain ⟨ks, hS⟩ := strs_list vs fun v hv => by
    obtain ⟨e, he, q⟩ := List.mem_map.mp (pm.mem_iff.mp hv)
    obtain ⟨⟨k, hk, _⟩, _⟩ := p.el e he
    obtain ⟨u, eu⟩ := txt_val hk
    exact ⟨k, u, by rw [← q]; exact eu⟩
  have hkl : ks.length = l.length := by rw [← StrsAre.length hS, hvl]
  have mem : ∀ k, k ∈ ks ↔ k ∈ l := fun k => by
    rw [strs_mem hS k, p.mm k]
    constructor
    · rintro ⟨u, hu⟩
      obtain ⟨e, he, q⟩ := List.mem_map.mp (pm.mem_iff.mp hu)
      exact ⟨e, he, by rw [show e.2 = Value.str k u from q]; exact is_txt k u⟩
    · rintro ⟨e, he, q⟩
      obtain ⟨u, eu⟩ := txt_val q
      exact ⟨u, pm.mem_iff.mpr (List.mem_map.mpr ⟨e, he, eu⟩)⟩
  have hkp : ks.Perm l := perm_of l ks nd (fun k hk => (mem k).mpr hk) (by omega)
  have hL : vs.length ≤ sizeLine := by rw [hvl, ← p.sz]; exact fits_of_scanBound p.lt
  refine wpAny_bind (wpAny_newList ?_ hL)
  have hoL : (s1.heap.push (seqObj "list" vs.toArray 0)).get? s1.heap.objs.size = some (seqObj "list" vs.toArray 0) := Heap.get?_push_size _ rfl
  refine wpAny_bind (wpAny_holding (wpAny_call_entry slot_list_sort ⟨_, hoL, rfl⟩ entry_list_sort (list_sort_treeKAny strKind_oneLt hoL hS.keysOf (fun v₁ v₂ rest e => keyKind_strs (by rw [← e]; exact hS)) hL fun st' hp hs => ?_) (args_list_sort _)))
  obtain ⟨ns', a1, a2, a3⟩ := sorted_out_str hS hp hs
  obtain ⟨c, hc⟩ := sortedHeap_at (vs := vs) (out := (arrOf st').map (·.2)) hoL
  refine ⟨_, rfl, wpAny_pure ⟨_, rfl, hQ _ s1.heap.objs.size _ c ns' (fun b u e => ?_) g1 o1 hz hc a1 (a2.trans hkp) a3⟩⟩
  have q := k1 b u e
  have lt := Heap.lt_size q
  show (sortedHeap (s1.heap.push (seqObj "list" vs.toArray 0)) s1.heap.objs.size vs _).get? b = some u
  rw [sortedHeap_old (Nat.ne_of_lt lt) (by rw [size_push']; exact Nat.lt_succ_of_lt lt)]
  exact Heap.get?_push_of_some _ q
end
/-! ### over the layer -/
/-- a set of texts at an address -/
def SetT (P : Program) (w : World) (a : Addr) (l : List Str) : HO := .ext fun h => Lst (kT P w) h a l
section
variable {X : Cx}
theorem setT_new {w : World} {P : Program} {H : Hp} {h : Heap} {a : Addr} {l : List Str} (R : Lst (kT P w) h a l) : ObjOk P w H h a (SetT P w a l) := by
  have ⟨o, _, _, _, ho, _⟩ := R
  exact ⟨R, ⟨o, ho⟩, fun h1 h2 p k => Has.on p k⟩
theorem setT_get {pins : List (Addr × Obj)} {σ : L2.St} {H : Hp} {s : Shared} {a : Addr} {l : List Str} (I : Inv X pins σ H s) (ha : H a = some (SetT X.prog X.w a l)) : Lst (kT X.prog X.w) s.heap a l := (I.hok a _ ha).1
/-- set(x), x a text of ASCII signs -/
def rSetS (P : Program) (w : World) : List V → Hp → VK → Prop := fun vs H Q => ∃ x : Str, vs = [.str x] ∧ x.cps.all (· < 128) = true ∧ x.cps.size ≤ 4000 ∧ ∀ p, H p = none → Q (.ref p) (upd H p (SetT P w p (uniq [] (sgs x))))
theorem cr_setS (hc : X.calm = true) : CallR X (.type "set") (rSetS X.prog X.w) := by
  intro pins s σ H vs us Q I r h
  obtain ⟨x, rfl, ha, hb, q⟩ := h
  cases r with
  | cons r rr =>
    cases rr
    obtain ⟨t, rfl⟩ := r
    refine set_of_text (I.ok.hd hc) ha (by unfold scanBound; omega) fun h' tk R k => ?_
    have hn : H s.heap.objs.size = none := I.hok.fresh (Nat.le_refl _)
    exact ⟨.ref s.heap.objs.size, _, I.laid (t' := tk) k (Nat.le_refl _) (setT_new R), rfl, q _ hn⟩
/-- set(xs), xs a list of texts -/
def rSetL (K : PySem.W.Frag) (P : Program) (w : World) : List V → Hp → VK → Prop := fun vs H Q => ∃ (a : Addr) (xs : List Str), vs = [.ref a] ∧ SqL K H a (xs.map V.str) ∧ xs.length ≤ 4000 ∧ ∀ p, H p = none → Q (.ref p) (upd H p (SetT P w p (uniq [] xs)))
theorem cr_setL (hc : X.calm = true) : CallR X (.type "set") (rSetL X.K X.prog X.w) := by
  intro pins s σ H vs us Q I r h
  obtain ⟨a, xs, rfl, hs, hb, q⟩ := h
  obtain ⟨its, rv, hl, _⟩ := I.list hs
  rw [Vals.ref1 r]
  refine set_of_list (I.ok.hd hc) hl.isList rv.strs (by unfold scanBound; omega) fun h' tk R k => ?_
  have hn : H s.heap.objs.size = none := I.hok.fresh (Nat.le_refl _)
  exact ⟨.ref s.heap.objs.size, _, I.laid (t' := tk) k (Nat.le_refl _) (setT_new R), rfl, q _ hn⟩
/-- sorted(found), found a set of texts -/
def rSortT (P : Program) (w : World) : List V → Hp → VK → Prop := fun vs H Q => ∃ (a : Addr) (l : List Str), vs = [V.ref a] ∧ H a = some (SetT P w a l) ∧ l.Nodup ∧ l.length ≤ 100000 ∧
  ∀ (ns : List Str) (p : Addr), ns.Perm l → sortedS ns = true → H p = none → Q (.ref p) (upd H p (.lst (ns.map V.str)))
theorem cr_sortT (hc : X.calm = true) : CallR X (.builtin "sorted") (rSortT X.prog X.w) := by
  intro pins s σ H vs us Q I r h
  obtain ⟨a, l, rfl, ha, nd, hl, q⟩ := h
  have R := setT_get I ha
  rw [Vals.ref1 r]
  refine sorted_set nd R (I.ok.hd hc) fun s' p out c ns k g o hp hg hi hpm hs => ?_
  have hlen : (ns.map V.str).length ≤ sizeLine := by rw [List.length_map, hpm.length_eq]; exact Nat.le_trans hl (by decide)
  have hn : H p = none := I.hok.fresh hp
  have J : Inv X pins σ (upd H p (.lst (ns.map V.str))) { s with heap := s'.heap, gens := s'.gens, drawn := s'.drawn, toks := s'.toks } :=
    I.call (ch := []) (Un.laid k hp hn) (I.hok.laid k hp ⟨hlen, out.toList, c, vals_of_strs hi, hg⟩) (by rw [g]; exact I.bare) (fun _ z => nomatch z)
  have e : s' = { s with heap := s'.heap, gens := s'.gens, drawn := s'.drawn, toks := s'.toks } := by
    cases s'
    cases s
    cases o
    rfl
  rw [e]
  exact ⟨.ref p, _, J, rfl, q ns p hpm hs hn⟩
/-- len(found), found a set of texts -/
def rLenT (P : Program) (w : World) : List V → Hp → VK → Prop := fun vs H Q => ∃ (a : Addr) (l : List Str), vs = [V.ref a] ∧ H a = some (SetT P w a l) ∧ l.length ≤ 100000 ∧ Q (.int l.length) H
theorem cr_lenT : CallR X (.builtin "len") (rLenT X.prog X.w) := by
  intro pins s σ H vs us Q I r h
  obtain ⟨a, l, rfl, ha, hl, q⟩ := h
  rw [Vals.ref1 r]
  exact len_set (setT_get I ha) (by omega) ⟨.int l.length, H, I.tok _, ⟨_, rfl⟩, q⟩
end
end Sx
set_option Elab.async false
set_option linter.all false
set_option maxRecDepth 100000
set_option maxHeartbeats 4000000
/-! Rx: some more rules over the layer -/
namespace Rx
open PySem PySem.Spec PyProof.Rows L2
section
variable {X : Cx}
/-- i ** j of great whole numbers -/
def CPowB (i j : Int) : Prop := 0 ≤ j ∧ (Builtin.Int.intBits i : Int) * j ≤ 2 ^ 27
theorem op_powB : OpR X (binaryOp .Pow) (rI CPowB fun i j => .int (i ^ j.toNat)) := by
  intro pins s σ H x y v u Q I rx ry h
  obtain ⟨i, j, rfl, rfl, hc, q⟩ := h
  obtain ⟨t, rfl⟩ := rx
  obtain ⟨t', rfl⟩ := ry
  exact pow_int hc.1 hc.2 ⟨.int (i ^ j.toNat), H, I.tok _, ⟨_, rfl⟩, q⟩
/-- list(x), x a text -/
def rListS : List V → Hp → VK → Prop := fun vs H Q => ∃ x : Str, vs = [.str x] ∧ x.cps.size ≤ 100000 ∧ ∀ p, H p = none → Q (.ref p) (upd H p (.lst ((Sx.sgs x).map V.str)))
theorem paired_get {α β : Type} {F : α → β → Prop} : ∀ {l : List α} {r : List β}, l.length = r.length → (∀ (i : Nat) a b, l[i]? = some a → r[i]? = some b → F a b) → Paired F l r
  | [], [], _, _ => .nil
  | [], _ :: _, h, _ => by simp at h
  | _ :: _, [], h, _ => by simp at h
  | a :: l, b :: r, h, g => .cons (g 0 a b rfl rfl) (paired_get (by simpa using h) fun i x y hx hy => g (i + 1) x y (by simpa using hx) (by simpa using hy))
theorem items_signs {x : Str} {acc : Array Value} (h : ItemsOf (SignAt x) acc x.cps.size) : Vals ((Sx.sgs x).map V.str) acc.toList := by
  refine paired_get ?_ fun i a b ha hb => ?_
  · rw [List.length_map, Sx.sgs, List.length_map, Array.length_toList, Array.length_toList, h.1]
  · rw [Array.getElem?_toList] at hb
    obtain ⟨c, u, hc, rfl⟩ := h.2 i b hb
    rw [List.getElem?_map, Sx.sgs, List.getElem?_map, Array.getElem?_toList, hc] at ha
    obtain rfl : V.str ⟨#[c]⟩ = a := Option.some.inj ha
    exact ⟨u, rfl⟩
theorem cr_listS (hc : X.calm = true) : CallR X (.type "list") rListS := by
  intro pins s σ H vs us Q I r h
  obtain ⟨x, rfl, hb, q⟩ := h
  cases r with
  | cons r rr =>
    cases rr
    obtain ⟨t, rfl⟩ := r
    have hz : x.cps.size ≤ sizeLine := Nat.le_trans hb (by decide)
    refine call_list_str (I.ok.hd hc) x t (fun h' tk acc c k hS hi => ?_) hz
    have hn : H s.heap.objs.size = none := I.hok.fresh (Nat.le_refl _)
    have hl : ((Sx.sgs x).map V.str).length = x.cps.size := by
      rw [List.length_map, Sx.sgs, List.length_map, Array.length_toList]
    have ok : ObjOk X.prog X.w (upd H s.heap.objs.size (.lst ((Sx.sgs x).map V.str))) h' s.heap.objs.size (.lst ((Sx.sgs x).map V.str)) := ⟨by rw [hl]; exact hz, acc.toList, c, items_signs hi, hS⟩
    exact ⟨.ref s.heap.objs.size, _, I.laid (t' := tk) k (Nat.le_refl _) ok, rfl, q _ hn⟩
/-- x[::k] of a text, k the number -1 -/
def turned (x : Str) : Str := ⟨x.cps.toList.reverse.toArray⟩
def tRevS (te : TE) (th : TO) : TE := fun σ H Q => te σ H fun x H1 => th σ H1 fun o H2 => ∃ z, x = .str z ∧ o = some (-1) ∧ z.length ≤ 100000 ∧ Q (.str (turned z)) H2
theorem pe_revS {e k : Expr} {te : TE} {th : TO} {p3 pos : Pos} (he : PE X e te) (hk : PO X (some k) th) : PE X (.Subscript e (.Slice none none (some k) p3) pos) (tRevS te th) := by
  refine ⟨fun pins s σ H Q I h => ?_⟩
  refine Subscript_ (thn (he.run pins s σ H _ I h) fun v s1 ⟨x, H1, I1, r1, q1⟩ => ?_)
  refine wpAny_Slice (thn (po_none.run pins s1 σ H1 (fun o H2 => o = none ∧ H2 = H1) I1 ⟨rfl, rfl⟩) fun vl s2 ⟨l, H2, I2, pl, el, e2⟩ => ?_)
  subst el e2
  refine thn (po_none.run pins s2 σ H2 (fun o H3 => o = none ∧ H3 = H2) I2 ⟨rfl, rfl⟩) fun vu s3 ⟨u, H3, I3, pu, eu, e3⟩ => ?_
  subst eu e3
  refine thn (hk.run pins s3 σ H3 _ I3 q1) fun vs s4 ⟨o, H4, I4, ps, q2⟩ => ?_
  obtain ⟨z, rfl, rfl, hz, q⟩ := q2
  obtain ⟨t, rfl⟩ := r1
  have I5 : Inv X pins σ H4 { s4 with heap := s4.heap.push { cls := .type "slice", data := .fields #[vl, vu, vs] } } := I4.kept (t' := s4.toks) fun b ob q => Heap.get?_push_of_some _ q
  obtain ⟨l1, rfl, el⟩ := IsPart.raw pl
  obtain ⟨u1, rfl, eu⟩ := IsPart.raw pu
  obtain ⟨k1, rfl, ek⟩ := IsPart.raw ps
  have hl1 : l1 = none := by cases l1 <;> simp_all
  have hu1 : u1 = none := by cases u1 <;> simp_all
  subst hl1 hu1
  show wpAny (model X.prog X.w) X.A (subscriptTail e (.Slice none none (some k) p3) (.str z t) (.ref s4.heap.objs.size)) (EP X pins σ Q) X.xe { s4 with heap := s4.heap.push { cls := .type "slice", data := .fields #[partValue none, partValue none, partValue k1] } }
  refine tail_any (ops := [.ref s4.heap.objs.size, .str z t]) (typeIs_str _ _ _) PySem.F.slot_str_getitem.lookup ?_ (by with_unfolding_all rfl)
  refine wpAny_getItem_str_slice (l := none) (u := none) (st := k1) ⟨_, Heap.get?_push_size _ rfl, rfl, rfl⟩ (by rw [ek]; rfl) ?_
  have hp : slicePicked z none none k1 = (List.range z.length).reverse := by
    unfold slicePicked
    rw [ek]
    show sliceRange ((z.length : Int) - 1) (-1) (-1) = _
    rw [PySem.W.krv_sliceRange, PySem.W.krv_range]
  unfold sliceMade
  rw [hp, ek]
  have e0 : (((some (-1) : Option Int).getD 1) == 1 && (List.range z.length).reverse.length == z.length) = false := by
    show (((-1 : Int) == 1) && _) = false
    rfl
  rw [if_neg (by rw [e0]; decide)]
  have e1 : ((List.range z.length).reverse.filterMap (z.cps[·]?)).toArray = (turned z).cps := by
    rw [List.filterMap_reverse, show z.length = z.cps.size from rfl, PySem.W.krv_all]
    rfl
  rw [e1]
  refine ⟨?_, .str _, H4, I5.tok _, ⟨_, rfl⟩, q⟩
  show (turned z).cps.size ≤ sizeLine
  have : (turned z).cps.size = z.cps.size := by simp [turned]
  rw [this]
  exact Nat.le_trans hz (by decide)
end
end Rx
set_option Elab.async false
set_option linter.all false
set_option maxRecDepth 100000
set_option maxHeartbeats 4000000
/-! Bx: what all the laws' texts share: texts as lists of signs, loops over texts and ranges, small facts of heaps -/
namespace Bx
open PySem PySem.Spec PyProof.Rows L2 Evl
abbrev mk (l : List Nat) : Str := ⟨l.toArray⟩
abbrev tx (l : List Nat) : V := .str (mk l)
theorem mk_list (l : List Nat) : (mk l).cps.toList = l := rfl
theorem mk_eq (z : Str) : z = mk z.cps.toList := rfl
theorem mk_inj {l m : List Nat} : mk l = mk m ↔ l = m := ⟨fun h => congrArg (fun z : Str => z.cps.toList) h, fun h => h ▸ rfl⟩
theorem tx_inj {l m : List Nat} : tx l = tx m ↔ l = m := ⟨fun h => mk_inj.mp (V.str.inj h), fun h => h ▸ rfl⟩
theorem mk_len (l : List Nat) : (mk l).length = l.length := by show l.toArray.size = l.length; simp
theorem mk_app (l m : List Nat) : mk l ++ mk m = mk (l ++ m) := by
  show Str.append (mk l) (mk m) = _
  simp [Str.append]
theorem sgs_mk (l : List Nat) : Sx.sgs (mk l) = l.map fun c => mk [c] := rfl
theorem cut_mk (l : List Nat) (a b : Option Int) : cutS (mk l) a b = mk ((l.drop (HT.sIx l.length 0 a)).take (HT.sIx l.length l.length b - HT.sIx l.length 0 a)) := by
  unfold cutS
  rw [mk_len]
theorem turned_mk (l : List Nat) : Rx.turned (mk l) = mk l.reverse := rfl
theorem ix_nat (n d : Nat) (i : Nat) : HT.sIx n d (some (i : Int)) = min i n := HT.sIx_nat n d i
theorem cut_to (l : List Nat) (i : Nat) : cutS (mk l) none (some (i : Int)) = mk (l.take i) := by
  rw [cut_mk, ix_nat, HT.sIx_none, List.drop_zero, Nat.sub_zero]
  congr 1
  by_cases h : i ≤ l.length
  · rw [Nat.min_eq_left h]
  · rw [Nat.min_eq_right (by omega), List.take_of_length_le (Nat.le_refl _), List.take_of_length_le (by omega)]
theorem cut_from (l : List Nat) (i : Nat) : cutS (mk l) (some (i : Int)) none = mk (l.drop i) := by
  rw [cut_mk, ix_nat, HT.sIx_none]
  congr 1
  by_cases h : i ≤ l.length
  · rw [Nat.min_eq_left h, List.take_of_length_le (by rw [List.length_drop]; omega)]
  · rw [Nat.min_eq_right (by omega), List.drop_of_length_le (Nat.le_refl _), List.drop_of_length_le (show l.length ≤ i by omega), List.take_nil]
/-- small letters alone -/
def Low (l : List Nat) : Prop := ∀ c ∈ l, 97 ≤ c ∧ c ≤ 122
theorem Low.app {l m : List Nat} (a : Low l) (b : Low m) : Low (l ++ m) := fun c h => (List.mem_append.mp h).elim (a c) (b c)
theorem Low.sub {l m : List Nat} (a : Low l) (h : ∀ c ∈ m, c ∈ l) : Low m := fun c hc => a c (h c hc)
theorem Low.nil : Low [] := fun c h => by simp at h
theorem Low.asc {l : List Nat} (a : Low l) : (mk l).cps.all (· < 128) = true := by
  rw [← Array.all_toList, List.all_eq_true]
  intro c hc
  have := a c hc
  exact decide_eq_true (by omega)
/-! ### heaps -/
theorem ex_upd {H : Hp} {p : Addr} {o : HO} (h : H p = none) : Ex H (upd H p o) := Ex.new h
/-- all but one object as before -/
def Xg (g : Addr) (H H' : Hp) : Prop := ∀ a o, a ≠ g → H a = some o → H' a = some o
theorem Xg.of {g : Addr} {H H' : Hp} (e : Ex H H') : Xg g H H' := fun a o _ h => e a o h
theorem Xg.trans {g : Addr} {H H1 H2 : Hp} (a : Xg g H H1) (b : Xg g H1 H2) : Xg g H H2 := fun x o n h => b x o n (a x o n h)
theorem Xg.refl (g : Addr) (H : Hp) : Xg g H H := fun _ _ _ h => h
theorem Xg.upd {g : Addr} {H H' : Hp} {o : HO} (e : Xg g H H') : Xg g H (L2.upd H' g o) := fun a u n h => by
  rw [upd_ne n]
  exact e a u n h
theorem Xg.fresh {g : Addr} {H H' : Hp} (e : Xg g H H') (hg : H' g ≠ none) {p : Addr} (h : H' p = none) : H p = none := by
  cases q : H p with
  | none => rfl
  | some o =>
    by_cases z : p = g
    · rw [z] at h
      exact absurd h hg
    · rw [e p o z q] at h
      cases h
/-- an extension, by what each is -/
theorem ex_ne {H : Hp} {a b : Addr} {o : HO} (h : H a = some o) (h' : H b = none) : a ≠ b := ne_of_none h h'
section
variable {K : PySem.W.Frag} {σ : L2.St} {H : Hp} {D : Ends} {tu : TS} {te ta : TE}
/-- for c in a text -/
theorem forS {j : Nat} {l : List Nat} (h : Ev te σ H (tx l)) (Pv : Nat → L2.St → Hp → Prop) (h0 : ∀ H1, Ex H H1 → Pv 0 σ H1)
    (hs : ∀ i c σ' H', l[i]? = some c → Pv i σ' H' → tu { D with nx := Pv (i + 1), ct := Pv (i + 1), bk := D.nx } (σ'.set j (some (tx [c]))) H')
    (hd : ∀ σ' H', Pv l.length σ' H' → D.nx σ' H') : tFor (iStr te) (gName j) tu D σ H :=
  h H (Ex.refl H) _ fun H1 e => ⟨mk l, rfl, by
    have w := walk_str (z := mk l)
    refine for_it w Pv (h0 H1 e) (fun _ _ _ _ _ => trivial) (fun i x σ' H' H2 hi p y => ?_) (fun σ' H' p => hd σ' H' ?_)
    · obtain ⟨rfl, c, hc, rfl⟩ := y
      refine hs i c σ' H2 ?_ p
      rw [← hc]
      simp
    · have e : (mk l).cps.size = l.length := by simp
      rw [← e]
      exact p⟩
/-- for i in reversed(range(n)) -/
theorem forRv {j : Nat} {n : Int} (h : Ev ta σ H (.int n)) (hn : 0 ≤ n ∧ n ≤ 100000) (Pv : Nat → L2.St → Hp → Prop) (h0 : ∀ H1, Ex H H1 → Pv 0 σ H1)
    (hs : ∀ (i : Nat) σ' H', (i : Int) < n → Pv i σ' H' → tu { D with nx := Pv (i + 1), ct := Pv (i + 1), bk := D.nx } (σ'.set j (some (.int (n - 1 - i)))) H')
    (hd : ∀ σ' H', Pv n.toNat σ' H' → D.nx σ' H') : tFor (iRevR (tRg1 ta)) (gName j) tu D σ H :=
  h H (Ex.refl H) _ fun H1 e => ⟨n, rfl, by omega, by omega, by omega, by omega, by
    have z : (n - 0).toNat = n.toNat := by rw [Int.sub_zero]
    rw [z]
    refine for_rangeC Pv (h0 H1 e) (fun i σ' H' hi p => ?_) hd
    have q : (0 : Int) + ((n.toNat : Nat) : Int) - 1 + (i : Nat) * (-1) = n - 1 - i := by omega
    rw [q]
    exact hs i σ' H' (by omega) p⟩
theorem rng_down {a : Int} (h0 : -1 ≤ a) (h1 : a ≤ 100000) : RgC a (-1) (-1) (a + 1).toNat := by
  have q := RgC.neg (i := a) (j := -1) (by omega) (by omega) (by omega) (by omega)
  have e : a - -1 = a + 1 := by omega
  rwa [e] at q
end
end Bx
namespace Bx
open PySem PySem.Spec PyProof.Rows L2 Evl
theorem sign_facts : ∀ c, c < 128 → (97 ≤ c → c ≤ 122 → Unicode.isAlpha c = true ∧ Unicode.isLower c = true ∧ (Unicode.isUpper c || Unicode.isTitle c) = false) := by decide +kernel
theorem low_ascii {l : List Nat} (h : Low l) : Txt.isascii (mk l) = true := h.asc
theorem low_alpha {l : List Nat} (h : Low l) (n : l ≠ []) : Txt.isalpha (mk l) = true := by
  unfold Txt.isalpha
  rw [Bool.and_eq_true]
  refine ⟨decide_eq_true ?_, ?_⟩
  · rw [mk_len]
    exact List.length_pos_iff.mpr n
  · rw [← Array.all_toList, List.all_eq_true]
    intro c hc
    have := h c hc
    exact (sign_facts c (by omega) (by omega) (by omega)).1
theorem low_lower {l : List Nat} (h : Low l) (n : l ≠ []) : Txt.islower (mk l) = true := by
  unfold Txt.islower
  rw [Bool.and_eq_true]
  constructor
  · rw [← Array.any_toList, List.any_eq_true]
    cases l with
    | nil => exact absurd rfl n
    | cons c r =>
      have := h c List.mem_cons_self
      exact ⟨c, List.mem_cons_self, (sign_facts c (by omega) (by omega) (by omega)).2.1⟩
  · rw [Bool.not_eq_true', ← Array.any_toList, List.any_eq_false]
    intro c hc
    have := h c hc
    rw [(sign_facts c (by omega) (by omega) (by omega)).2.2]
    decide
end Bx
namespace Bx
open PySem PySem.Spec PyProof.Rows L2 Evl
theorem mul_ok {i j : Int} (hi : i.natAbs < 2 ^ 9000) (hj : j.natAbs < 2 ^ 9000) : CMulW i j := wide_mul hi hj (by decide) (by decide) (by decide)
theorem abs_nat {n a : Nat} (h : n < 2 ^ a) : ((n : Nat) : Int).natAbs < 2 ^ a := by rw [Int.natAbs_natCast]; exact h
theorem small_pow {n : Nat} (h : n < 2 ^ 64) : n < 2 ^ 9000 := Nat.lt_of_lt_of_le h (Nat.pow_le_pow_right (by decide) (by decide))
theorem small_abs {i : Int} (h : i.natAbs < 2 ^ 64) : i.natAbs < 2 ^ 9000 := small_pow h
/-! ### data that are compared -/
theorem eqvAll_ints : ∀ ns ms : List Int, PyData.eqvAll (ns.map .int) (ms.map .int) = decide (ns = ms)
  | [], [] => by simp [PyData.eqvAll]
  | [], _ :: _ => by simp [PyData.eqvAll]
  | _ :: _, [] => by simp [PyData.eqvAll]
  | n :: ns, m :: ms => by
    show ((n == m) && PyData.eqvAll (ns.map .int) (ms.map .int)) = _
    rw [eqvAll_ints ns ms]
    by_cases h1 : n = m <;> by_cases h2 : ns = ms <;> simp [h1, h2]
theorem eqvAll_strs : ∀ ns ms : List Str, PyData.eqvAll (ns.map .str) (ms.map .str) = decide (ns = ms)
  | [], [] => by simp [PyData.eqvAll]
  | [], _ :: _ => by simp [PyData.eqvAll]
  | _ :: _, [] => by simp [PyData.eqvAll]
  | n :: ns, m :: ms => by
    show ((n == m) && PyData.eqvAll (ns.map .str) (ms.map .str)) = _
    rw [eqvAll_strs ns ms]
    by_cases h1 : n = m <;> by_cases h2 : ns = ms <;> simp [h1, h2]
theorem dpAll_ints {K : PySem.W.Frag} {H : Hp} : ∀ ns : List Int, DpAll K H (ns.map V.int) (ns.map PyData.int)
  | [] => .nil
  | n :: ns => .cons (.int n) (dpAll_ints ns)
theorem dpAll_strs {K : PySem.W.Frag} {H : Hp} : ∀ ns : List Str, DpAll K H (ns.map V.str) (ns.map PyData.str)
  | [] => .nil
  | n :: ns => .cons (.str n) (dpAll_strs ns)
theorem flat_shaped (ds : List PyData) (h : ∀ d ∈ ds, PyData.canLay0 d = true ∧ PyData.depth d = 0) : SeqAt.shaped (.list ds) = true ∧ SeqAt.shaped (.tuple ds) = true := by
  have a : PyData.canLayAll0 ds = true ∧ PyData.depthAll ds = 0 := by
    induction ds with
    | nil => exact ⟨rfl, rfl⟩
    | cons d ds ih =>
      obtain ⟨i1, i2⟩ := ih fun x hx => h x (List.mem_cons_of_mem _ hx)
      obtain ⟨h1, h2⟩ := h d List.mem_cons_self
      refine ⟨?_, ?_⟩
      · show (PyData.canLay0 d && PyData.canLayAll0 ds) = true
        rw [h1, i1]
        rfl
      · show max (PyData.depth d) (PyData.depthAll ds) = 0
        rw [h2, i2]
        rfl
  have z : decide (PyData.depthAll ds + 1 ≤ 64) = true := by
    rw [a.2]
    decide
  constructor
  · show (PyData.canLayAll0 ds && decide (PyData.depthAll ds + 1 ≤ 64)) = true
    rw [a.1, z]
    rfl
  · show (PyData.canLayAll0 ds && decide (PyData.depthAll ds + 1 ≤ 64)) = true
    rw [a.1, z]
    rfl
theorem shaped_ints (ns : List Int) : SeqAt.shaped (.list (ns.map PyData.int)) = true := (flat_shaped _ fun d hd => by
  obtain ⟨n, _, rfl⟩ := List.mem_map.mp hd
  exact ⟨rfl, rfl⟩).1
theorem str_ok {l : List Nat} (h : Low l) : PyData.canLay0 (.str (mk l)) = true := by
  show (mk l).cps.all (· < 0x110000) = true
  rw [← Array.all_toList, List.all_eq_true]
  intro c hc
  have := h c hc
  exact decide_eq_true (by omega)
theorem shaped_strs (ns : List Str) (h : ∀ z ∈ ns, Low z.cps.toList) : SeqAt.shaped (.list (ns.map PyData.str)) = true := (flat_shaped _ fun d hd => by
  obtain ⟨n, hn, rfl⟩ := List.mem_map.mp hd
  exact ⟨str_ok (h n hn), rfl⟩).1
/-! ### sorted texts -/
def leS (a b : Str) : Prop := a.cps.toList ≤ b.cps.toList
theorem leS_of {a b : Str} (h : ltCps b.cps.toList a.cps.toList = false) : leS a b := by
  rw [ltCps_eq] at h
  exact of_decide_eq_false h
theorem rise_all : ∀ (l : List Str) (p : Str), risingS p l = true → (p :: l).Pairwise leS
  | [], p, _ => List.pairwise_singleton _ _
  | y :: r, p, h => by
    have h' : (!ltCps y.cps.toList p.cps.toList && risingS y r) = true := h
    rw [Bool.and_eq_true, Bool.not_eq_true'] at h'
    have ih := rise_all r y h'.2
    have py := leS_of h'.1
    refine List.pairwise_cons.mpr ⟨fun x hx => ?_, ih⟩
    rcases List.mem_cons.mp hx with e | e
    · rw [e]
      exact py
    · exact List.le_trans py ((List.pairwise_cons.mp ih).1 x e)
theorem sorted_all {l : List Str} (h : sortedS l = true) : l.Pairwise leS := by
  cases l with
  | nil => exact List.Pairwise.nil
  | cons p r => exact rise_all r p h
theorem leS_anti {a b : Str} (h : leS a b) (h' : leS b a) : a = b := by
  have e := List.le_antisymm h h'
  have ea := mk_eq a
  have eb := mk_eq b
  rw [ea, eb, e]
/-- the one sorted list -/
theorem sorted_one {l m : List Str} (hp : l.Perm m) (hl : sortedS l = true) (hm : m.Pairwise leS) : l = m :=
  List.Perm.eq_of_pairwise (le := leS) (fun _ _ _ _ => leS_anti) (sorted_all hl) hm hp
theorem sing_le {a b : Nat} (h : a < b) : leS (mk [a]) (mk [b]) := by
  show [a] ≤ [b]
  refine List.not_lt.mp fun z => ?_
  have := List.cons_lt_cons_iff.mp z
  rcases this with q | ⟨q, _⟩ <;> omega
theorem signs_sorted {L : List Nat} (h : L.Pairwise (· < ·)) : (L.map fun c => mk [c]).Pairwise leS := by
  rw [List.pairwise_map]
  exact h.imp sing_le
theorem sing_inj {a b : Nat} (h : mk [a] = mk [b]) : a = b := by
  have := mk_inj.mp h
  simpa using this
theorem signs_nodup {L : List Nat} (h : L.Nodup) : (L.map fun c => mk [c]).Nodup := by
  unfold List.Nodup at h ⊢
  rw [List.pairwise_map]
  exact h.imp fun n e => n (sing_inj e)
theorem uniq_id {κ : Type} [DecidableEq κ] : ∀ (ks acc : List κ), (acc ++ ks).Nodup → Sx.uniq acc ks = acc ++ ks
  | [], acc, _ => by rw [Sx.uniq, List.append_nil]
  | k :: r, acc, h => by
    have n : k ∉ acc := fun hk => by
      rw [List.nodup_append] at h
      exact h.2.2 k hk k List.mem_cons_self rfl
    rw [Sx.uniq, if_neg n, uniq_id r (acc ++ [k]) (by rw [List.append_assoc]; exact h), List.append_assoc]
    rfl
theorem lt_nodup {L : List Nat} (h : L.Pairwise (· < ·)) : L.Nodup := h.imp fun a e => by omega
/-- an alphabet -/
structure Alph (L : List Nat) : Prop where
  low : Low L
  up : L.Pairwise (· < ·)
  one : 1 ≤ L.length
  four : L.length ≤ 4
end Bx
set_option linter.all false
/-! Mx: counts of words in texts: the mathematics, over lists of signs -/
namespace Mx
def cnt : List Nat → List Nat → Nat
  | [], _ => 1
  | _ :: _, [] => 0
  | a :: w, b :: t => cnt (a :: w) t + if a = b then cnt w t else 0
theorem cnt_nil (t : List Nat) : cnt [] t = 1 := by cases t <;> rfl
theorem cnt_e (a : Nat) (w : List Nat) : cnt (a :: w) [] = 0 := rfl
theorem cnt_c (a b : Nat) (w t : List Nat) : cnt (a :: w) (b :: t) = cnt (a :: w) t + if a = b then cnt w t else 0 := by rw [cnt]
theorem cnt_empty : ∀ w : List Nat, w ≠ [] → cnt w [] = 0
  | [], h => absurd rfl h
  | _ :: _, _ => rfl
theorem cnt_snoc : ∀ (p u : List Nat) (a c : Nat), cnt (u ++ [a]) (p ++ [c]) = cnt (u ++ [a]) p + if a = c then cnt u p else 0
  | [], [], a, c => by
    show cnt [a] [c] = cnt [a] [] + if a = c then cnt [] [] else 0
    rw [cnt_c]
  | [], x :: u, a, c => by
    show cnt (x :: (u ++ [a])) [c] = cnt (x :: (u ++ [a])) [] + if a = c then cnt (x :: u) [] else 0
    rw [cnt_c, cnt_e, cnt_e, cnt_empty (u ++ [a]) (by simp)]
    simp
  | b :: p, [], a, c => by
    have ih := cnt_snoc p [] a c
    show cnt [a] (b :: (p ++ [c])) = cnt [a] (b :: p) + if a = c then cnt [] (b :: p) else 0
    simp only [List.nil_append] at ih
    rw [cnt_c, ih, cnt_c]
    simp only [cnt_nil]
    omega
  | b :: p, x :: u, a, c => by
    have i1 := cnt_snoc p (x :: u) a c
    have i2 := cnt_snoc p u a c
    show cnt (x :: (u ++ [a])) (b :: (p ++ [c])) = cnt (x :: (u ++ [a])) (b :: p) + if a = c then cnt (x :: u) (b :: p) else 0
    simp only [List.cons_append] at i1
    rw [cnt_c, i1, cnt_c, cnt_c, i2]
    by_cases h1 : x = b <;> by_cases h2 : a = c <;> simp [h1, h2] <;> omega
theorem cnt_rev : ∀ (t w : List Nat), cnt w.reverse t.reverse = cnt w t
  | [], [] => rfl
  | [], a :: w => by
    rw [cnt_e]
    exact cnt_empty _ (by simp)
  | b :: t, [] => by rw [List.reverse_nil, cnt_nil, cnt_nil]
  | b :: t, a :: w => by
    rw [List.reverse_cons, List.reverse_cons, cnt_snoc, cnt_rev t w, ← List.reverse_cons, cnt_rev t (a :: w), cnt_c]
/-- the ways to cut a word in two -/
def splits : List Nat → List (List Nat × List Nat)
  | [] => [([], [])]
  | a :: w => ([], a :: w) :: (splits w).map fun p => (a :: p.1, p.2)
theorem sum_map_add {α : Type} (f g : α → Nat) : ∀ l : List α, (l.map fun x => f x + g x).sum = (l.map f).sum + (l.map g).sum
  | [] => rfl
  | x :: l => by
    simp only [List.map_cons, List.sum_cons]
    rw [sum_map_add f g l]
    omega
theorem sum_map_zero {α : Type} : ∀ l : List α, (l.map fun _ => 0).sum = 0
  | [] => rfl
  | x :: l => by simp only [List.map_cons, List.sum_cons]; rw [sum_map_zero l]
theorem cnt_app : ∀ (s t w : List Nat), cnt w (s ++ t) = ((splits w).map fun p => cnt p.1 s * cnt p.2 t).sum
  | [], t, [] => by simp [splits, cnt_nil]
  | [], t, a :: w => by
    rw [splits, List.map_cons, List.sum_cons, List.map_map]
    have e : ((splits w).map ((fun p : List Nat × List Nat => cnt p.1 [] * cnt p.2 t) ∘ fun p => (a :: p.1, p.2))).sum = 0 := by
      rw [← sum_map_zero (splits w)]
      congr 1
      apply List.map_congr_left
      intro p _
      show cnt (a :: p.1) [] * cnt p.2 t = 0
      rw [cnt_e, Nat.zero_mul]
    rw [e, cnt_nil, Nat.one_mul, List.nil_append]
    rfl
  | b :: s, t, [] => by simp [splits, cnt_nil]
  | b :: s, t, a :: w => by
    rw [List.cons_append, cnt_c, cnt_app s t (a :: w), cnt_app s t w]
    rw [splits, List.map_cons, List.sum_cons, List.map_map, List.map_cons, List.sum_cons, List.map_map]
    have e : ((splits w).map ((fun p : List Nat × List Nat => cnt p.1 (b :: s) * cnt p.2 t) ∘ fun p => (a :: p.1, p.2))).sum =
        ((splits w).map ((fun p : List Nat × List Nat => cnt p.1 s * cnt p.2 t) ∘ fun p => (a :: p.1, p.2))).sum + if a = b then ((splits w).map fun p => cnt p.1 s * cnt p.2 t).sum else 0 := by
      by_cases h : a = b
      · rw [if_pos h, ← sum_map_add]
        congr 1
        apply List.map_congr_left
        intro p _
        show cnt (a :: p.1) (b :: s) * cnt p.2 t = cnt (a :: p.1) s * cnt p.2 t + cnt p.1 s * cnt p.2 t
        rw [cnt_c, if_pos h, Nat.add_mul]
      · rw [if_neg h, Nat.add_zero]
        congr 1
        apply List.map_congr_left
        intro p _
        show cnt (a :: p.1) (b :: s) * cnt p.2 t = cnt (a :: p.1) s * cnt p.2 t
        rw [cnt_c, if_neg h, Nat.add_zero]
    rw [e]
    simp only [cnt_nil]
    omega
theorem splits_range : ∀ w : List Nat, (List.range (w.length + 1)).map (fun i => (w.take i, w.drop i)) = splits w
  | [] => rfl
  | a :: w => by
    rw [List.length_cons, List.range_succ_eq_map, List.map_cons, List.map_map, splits, ← splits_range w, List.map_map]
    rfl
/-- the same, as it is added up in whole numbers -/
theorem cnt_cuts (w s t : List Nat) : ((cnt w (s ++ t) : Nat) : Int) = ((List.range (w.length + 1)).map fun i => ((cnt (w.take i) s : Nat) : Int) * ((cnt (w.drop i) t : Nat) : Int)).sum := by
  rw [cnt_app, ← splits_range, List.map_map]
  generalize List.range (w.length + 1) = l
  induction l with
  | nil => rfl
  | cons i l ih =>
    simp only [List.map_cons, List.sum_cons, Function.comp] at ih ⊢
    rw [Int.natCast_add, ih, Int.natCast_mul]
theorem cnt_front (w t : List Nat) (c : Nat) : cnt w (c :: t) = cnt w t + if w.take 1 = [c] then cnt (w.drop 1) t else 0 := by
  cases w with
  | nil => simp [cnt_nil]
  | cons a w =>
    rw [cnt_c]
    by_cases h : a = c <;> simp [h]
theorem cnt_back (w t : List Nat) (c : Nat) : cnt w (t ++ [c]) = cnt w t + if w.drop (w.length - 1) = [c] then cnt (w.take (w.length - 1)) t else 0 := by
  rcases List.eq_nil_or_concat w with rfl | ⟨u, a, rfl⟩
  · simp [cnt_nil]
  · rw [List.concat_eq_append, cnt_snoc]
    have e1 : (u ++ [a]).length - 1 = u.length := by simp
    rw [e1, List.drop_left, List.take_left]
    by_cases h : a = c <;> simp [h]
theorem cnt_filter : ∀ (t w : List Nat) (S : Nat → Bool), (∀ a ∈ w, S a = true) → cnt w (t.filter S) = cnt w t
  | [], w, S, _ => rfl
  | b :: t, [], S, _ => by rw [cnt_nil, cnt_nil]
  | b :: t, a :: w, S, h => by
    rw [List.filter_cons]
    by_cases hb : S b = true
    · rw [if_pos hb, cnt_c, cnt_c, cnt_filter t (a :: w) S h, cnt_filter t w S fun x hx => h x (List.mem_cons_of_mem _ hx)]
    · rw [if_neg hb, cnt_filter t (a :: w) S h, cnt_c]
      have n : a ≠ b := fun e => hb (e ▸ h a List.mem_cons_self)
      rw [if_neg n, Nat.add_zero]
def twice : List Nat → List Nat
  | [] => []
  | c :: t => c :: c :: twice t
theorem cnt_twice : ∀ (t w : List Nat), w.Nodup → cnt w (twice t) = 2 ^ w.length * cnt w t
  | [], [], _ => rfl
  | [], a :: w, _ => by rw [twice, cnt_e, Nat.mul_zero]
  | b :: t, [], _ => by rw [cnt_nil, cnt_nil]; rfl
  | b :: t, a :: w, h => by
    obtain ⟨h1, h2⟩ := List.nodup_cons.mp h
    rw [twice, cnt_c, cnt_c, cnt_twice t (a :: w) h, cnt_c]
    by_cases e : a = b
    · subst e
      simp only [if_true]
      have z : cnt w (a :: twice t) = cnt w (twice t) := by
        cases w with
        | nil => rw [cnt_nil, cnt_nil]
        | cons x w =>
          rw [cnt_c, if_neg (fun e : x = a => h1 (by rw [e]; exact List.mem_cons_self)), Nat.add_zero]
      rw [z, cnt_twice t w h2, List.length_cons, Nat.pow_succ, Nat.mul_add]
      generalize cnt w t = q
      generalize 2 ^ w.length = r
      have : r * 2 * q = r * q + r * q := by
        rw [Nat.mul_comm r 2, Nat.mul_assoc]
        omega
      omega
    · simp [e]
/-! ### the row of a count's loop -/
def row (w p : List Nat) : List Int := (List.range (w.length + 1)).map fun j => ((cnt (w.take j) p : Nat) : Int)
theorem row_len (w p : List Nat) : (row w p).length = w.length + 1 := by simp [row]
theorem row_at (w p : List Nat) (j : Nat) (h : j ≤ w.length) : (row w p)[j]? = some ((cnt (w.take j) p : Nat) : Int) := by
  unfold row
  rw [List.getElem?_map, List.getElem?_range (by omega)]
  rfl
theorem row_nil (w : List Nat) : row w [] = 1 :: List.replicate w.length 0 := by
  unfold row
  rw [List.range_succ_eq_map, List.map_cons, List.map_map]
  congr 1
  · apply List.ext_getElem
    · simp
    · intro i h1 h2
      simp only [List.length_map, List.length_range] at h1
      simp only [List.getElem_map, List.getElem_range, List.getElem_replicate, Function.comp]
      rw [cnt_empty _ (by
        cases w with
        | nil => simp at h1
        | cons a w => simp)]
      rfl
/-- behind i turns of the inner loop -/
def mid (w p : List Nat) (c i : Nat) : List Int := (List.range (w.length + 1)).map fun j => if w.length - i < j then ((cnt (w.take j) (p ++ [c]) : Nat) : Int) else ((cnt (w.take j) p : Nat) : Int)
theorem mid_len (w p : List Nat) (c i : Nat) : (mid w p c i).length = w.length + 1 := by simp [mid]
theorem mid_at (w p : List Nat) (c i j : Nat) (h : j ≤ w.length) : (mid w p c i)[j]? = some (if w.length - i < j then ((cnt (w.take j) (p ++ [c]) : Nat) : Int) else ((cnt (w.take j) p : Nat) : Int)) := by
  unfold mid
  rw [List.getElem?_map, List.getElem?_range (by omega)]
  rfl
theorem mid_zero (w p : List Nat) (c : Nat) : mid w p c 0 = row w p := by
  unfold mid row
  apply List.map_congr_left
  intro j hj
  have := List.mem_range.mp hj
  rw [if_neg (by omega)]
theorem mid_all (w p : List Nat) (c : Nat) : mid w p c w.length = row w (p ++ [c]) := by
  unfold mid row
  apply List.map_congr_left
  intro j hj
  by_cases h : j = 0
  · subst h
    simp [cnt_nil]
  · rw [if_pos (by omega)]
theorem take_snoc (w : List Nat) (j : Nat) (h : j < w.length) : w.take (j + 1) = w.take j ++ [w[j]] := by
  rw [List.take_add_one, List.getElem?_eq_getElem h]
  rfl
/-- a turn: at the place k from the end -/
theorem mid_turn (w p : List Nat) (c i : Nat) (h : i < w.length) : mid w p c (i + 1) =
    if w[w.length - 1 - i]? = some c then (mid w p c i).set (w.length - i) (((cnt (w.take (w.length - i)) p : Nat) : Int) + ((cnt (w.take (w.length - 1 - i)) p : Nat) : Int)) else mid w p c i := by
  have hk : w.length - 1 - i < w.length := by omega
  have e1 : w.length - i = w.length - 1 - i + 1 := by omega
  have step : cnt (w.take (w.length - i)) (p ++ [c]) = cnt (w.take (w.length - i)) p + if w[w.length - 1 - i] = c then cnt (w.take (w.length - 1 - i)) p else 0 := by
    rw [e1, take_snoc w _ hk, cnt_snoc]
  apply List.ext_getElem?
  intro j
  by_cases hj : j ≤ w.length
  · rw [mid_at _ _ _ _ _ hj]
    rw [List.getElem?_eq_getElem hk]
    by_cases hc : w[w.length - 1 - i] = c
    · rw [if_pos (congrArg some hc)]
      rw [if_pos hc] at step
      by_cases hjj : j = w.length - i
      · subst hjj
        rw [List.getElem?_set_self (by rw [mid_len]; omega), if_pos (by omega), step, Int.natCast_add]
      · rw [List.getElem?_set_ne (by omega), mid_at _ _ _ _ _ hj]
        by_cases q : w.length - i < j
        · rw [if_pos q, if_pos (by omega)]
        · rw [if_neg q, if_neg (by omega)]
    · rw [if_neg (fun z => hc (Option.some.inj z)), mid_at _ _ _ _ _ hj]
      rw [if_neg hc] at step
      by_cases hjj : j = w.length - i
      · subst hjj
        rw [if_pos (by omega), if_neg (by omega), step, Nat.add_zero]
      · by_cases q : w.length - i < j
        · rw [if_pos q, if_pos (by omega)]
        · rw [if_neg q, if_neg (by omega)]
  · have z1 : (mid w p c (i + 1))[j]? = none := List.getElem?_eq_none_iff.mpr (by rw [mid_len]; omega)
    rw [z1]
    symm
    split
    · exact List.getElem?_eq_none_iff.mpr (by rw [List.length_set, mid_len]; omega)
    · exact List.getElem?_eq_none_iff.mpr (by rw [mid_len]; omega)
end Mx
namespace Mx
theorem cnt_le : ∀ (t w : List Nat), cnt w t ≤ 2 ^ t.length
  | [], [] => by decide
  | [], _ :: _ => Nat.zero_le _
  | b :: t, [] => by
    rw [cnt_nil]
    exact Nat.one_le_two_pow
  | b :: t, a :: w => by
    rw [cnt_c, List.length_cons, Nat.pow_succ]
    have h1 := cnt_le t (a :: w)
    have h2 := cnt_le t w
    split <;> omega
theorem twice_flat : ∀ t : List Nat, (t.map fun c => [c, c]).flatten = twice t
  | [] => rfl
  | c :: t => by
    rw [List.map_cons, List.flatten_cons, twice_flat t]
    rfl
end Mx
set_option Elab.async false
set_option linter.all false
set_option maxRecDepth 100000
set_option maxHeartbeats 4000000
/-! Tm: terms of sums: words with numbers -/
namespace Tm
open Mx
abbrev Wd := List Nat
abbrev Terms := List (Wd × Int)
def wlt (a b : Wd) : Prop := a.length < b.length ∨ (a.length = b.length ∧ a < b)
instance (a b : Wd) : Decidable (wlt a b) := by unfold wlt; infer_instance
theorem lt_tri : ∀ (l l' : Wd), l < l' ∨ l = l' ∨ l' < l
  | [], [] => .inr (.inl rfl)
  | [], _ :: _ => .inl List.Lex.nil
  | _ :: _, [] => .inr (.inr List.Lex.nil)
  | a :: l, b :: l' => by
    rcases Nat.lt_trichotomy a b with h | h | h
    · exact .inl (List.Lex.rel h)
    · subst h
      rcases lt_tri l l' with q | q | q
      · exact .inl (List.Lex.cons q)
      · exact .inr (.inl (by rw [q]))
      · exact .inr (.inr (List.Lex.cons q))
    · exact .inr (.inr (List.Lex.rel h))
theorem wlt_irrefl (a : Wd) : ¬ wlt a a := fun h => by
  rcases h with h | ⟨_, h⟩
  · omega
  · exact List.lt_irrefl a h
theorem wlt_trans {a b c : Wd} (h : wlt a b) (h' : wlt b c) : wlt a c := by
  unfold wlt at *
  rcases h with h | ⟨e, h⟩ <;> rcases h' with h' | ⟨e', h'⟩
  · exact .inl (by omega)
  · exact .inl (by omega)
  · exact .inl (by omega)
  · exact .inr ⟨by omega, List.lt_trans h h'⟩
theorem wlt_tri (a b : Wd) : wlt a b ∨ a = b ∨ wlt b a := by
  unfold wlt
  rcases Nat.lt_trichotomy a.length b.length with h | h | h
  · exact .inl (.inl h)
  · rcases lt_tri a b with q | q | q
    · exact .inl (.inr ⟨h, q⟩)
    · exact .inr (.inl q)
    · exact .inr (.inr (.inr ⟨h.symm, q⟩))
  · exact .inr (.inr (.inl h))
/-- the number that a word has in all -/
def tot : Terms → Wd → Int
  | [], _ => 0
  | e :: r, w => (if e.1 = w then e.2 else 0) + tot r w
theorem tot_app (a b : Terms) (w : Wd) : tot (a ++ b) w = tot a w + tot b w := by
  induction a with
  | nil => simp [tot]
  | cons e r ih =>
    show (if e.1 = w then e.2 else 0) + tot (r ++ b) w = (if e.1 = w then e.2 else 0) + tot r w + tot b w
    rw [ih]
    omega
def Nf (ts : Terms) : Prop := (ts.map (·.1)).Pairwise wlt ∧ ∀ e ∈ ts, e.2 ≠ 0
theorem tot_none {ts : Terms} {w : Wd} (h : ∀ e ∈ ts, e.1 ≠ w) : tot ts w = 0 := by
  induction ts with
  | nil => rfl
  | cons e r ih =>
    show (if e.1 = w then e.2 else 0) + tot r w = 0
    rw [if_neg (h e List.mem_cons_self), ih fun x hx => h x (List.mem_cons_of_mem _ hx)]
    rfl
theorem Nf.tail {e : Wd × Int} {r : Terms} (h : Nf (e :: r)) : Nf r := ⟨(List.pairwise_cons.mp h.1).2, fun x hx => h.2 x (List.mem_cons_of_mem _ hx)⟩
theorem Nf.head {e : Wd × Int} {r : Terms} (h : Nf (e :: r)) : ∀ x ∈ r, wlt e.1 x.1 := fun x hx => (List.pairwise_cons.mp h.1).1 x.1 (List.mem_map_of_mem hx)
theorem Nf.tot_mem {ts : Terms} (h : Nf ts) : ∀ e ∈ ts, tot ts e.1 = e.2 := by
  induction ts with
  | nil => intro e he; cases he
  | cons x r ih =>
    intro e he
    show (if x.1 = e.1 then x.2 else 0) + tot r e.1 = e.2
    rcases List.mem_cons.mp he with z | z
    · subst z
      rw [if_pos rfl, tot_none fun y hy q => wlt_irrefl e.1 (by have := h.head y hy; rwa [q] at this)]
      omega
    · have hx := h.head e z
      rw [if_neg (fun q => wlt_irrefl e.1 (by rwa [q] at hx)), ih h.tail e z]
      omega
theorem Nf.mem_tot {ts : Terms} {w : Wd} (h : tot ts w ≠ 0) : ∃ e ∈ ts, e.1 = w := by
  apply Decidable.byContradiction
  intro z
  exact h (tot_none fun e he q => z ⟨e, he, q⟩)
theorem Nf.ext : ∀ {ts us : Terms}, Nf ts → Nf us → (∀ w, tot ts w = tot us w) → ts = us
  | [], [], _, _, _ => rfl
  | [], e :: r, _, h, q => by
    have := h.tot_mem e List.mem_cons_self
    rw [← q] at this
    exact absurd this.symm (h.2 e List.mem_cons_self)
  | e :: r, [], h, _, q => by
    have := h.tot_mem e List.mem_cons_self
    rw [q] at this
    exact absurd this.symm (h.2 e List.mem_cons_self)
  | e :: r, f :: s, h, h', q => by
    have he := h.tot_mem e List.mem_cons_self
    have hf := h'.tot_mem f List.mem_cons_self
    have ne := h.2 e List.mem_cons_self
    have nf := h'.2 f List.mem_cons_self
    have first : e.1 = f.1 := by
      rcases wlt_tri e.1 f.1 with z | z | z
      · exfalso
        obtain ⟨x, hx, hx1⟩ := Nf.mem_tot (ts := f :: s) (w := e.1) (by rw [← q, he]; exact ne)
        rcases List.mem_cons.mp hx with y | y
        · rw [← hx1, y] at z
          exact wlt_irrefl _ z
        · have := h'.head x y
          rw [hx1] at this
          exact wlt_irrefl _ (wlt_trans z this)
      · exact z
      · exfalso
        obtain ⟨x, hx, hx1⟩ := Nf.mem_tot (ts := e :: r) (w := f.1) (by rw [q, hf]; exact nf)
        rcases List.mem_cons.mp hx with y | y
        · rw [← hx1, y] at z
          exact wlt_irrefl _ z
        · have := h.head x y
          rw [hx1] at this
          exact wlt_irrefl _ (wlt_trans z this)
    have second : e.2 = f.2 := by rw [← he, q, first, hf]
    have ef : e = f := Prod.ext first second
    subst ef
    congr 1
    refine Nf.ext h.tail h'.tail fun w => ?_
    have := q w
    have a : tot (e :: r) w = (if e.1 = w then e.2 else 0) + tot r w := rfl
    have b : tot (e :: s) w = (if e.1 = w then e.2 else 0) + tot s w := rfl
    omega
/-- a term more -/
def ins (w : Wd) (n : Int) : Terms → Terms
  | [] => if n = 0 then [] else [(w, n)]
  | e :: r => if wlt w e.1 then (if n = 0 then e :: r else (w, n) :: e :: r) else if w = e.1 then (if e.2 + n = 0 then r else (w, e.2 + n) :: r) else e :: ins w n r
def nf (ts : Terms) : Terms := ts.foldr (fun e a => ins e.1 e.2 a) []
theorem ins_words (w : Wd) (n : Int) : ∀ (ts : Terms), ∀ e ∈ ins w n ts, e.1 = w ∨ ∃ x ∈ ts, x.1 = e.1
  | [], e, h => by
    unfold ins at h
    split at h
    · cases h
    · rw [List.mem_singleton] at h
      exact .inl (by rw [h])
  | x :: r, e, h => by
    unfold ins at h
    split at h
    · split at h
      · exact .inr ⟨e, h, rfl⟩
      · rcases List.mem_cons.mp h with z | z
        · exact .inl (by rw [z])
        · exact .inr ⟨e, z, rfl⟩
    · split at h
      · split at h
        · exact .inr ⟨e, List.mem_cons_of_mem _ h, rfl⟩
        · rcases List.mem_cons.mp h with z | z
          · exact .inl (by rw [z])
          · exact .inr ⟨e, List.mem_cons_of_mem _ z, rfl⟩
      · rcases List.mem_cons.mp h with z | z
        · exact .inr ⟨x, List.mem_cons_self, by rw [z]⟩
        · rcases ins_words w n r e z with q | ⟨y, hy, q⟩
          · exact .inl q
          · exact .inr ⟨y, List.mem_cons_of_mem _ hy, q⟩
theorem ins_nf (w : Wd) (n : Int) : ∀ {ts : Terms}, Nf ts → Nf (ins w n ts)
  | [], _ => by
    unfold ins
    split
    · exact ⟨List.Pairwise.nil, fun e h => by cases h⟩
    · rename_i h
      exact ⟨List.pairwise_singleton _ _, fun e he => by rw [List.mem_singleton.mp he]; exact h⟩
  | x :: r, hx => by
    unfold ins
    split
    · rename_i hw
      split
      · exact hx
      · rename_i hn
        refine ⟨List.pairwise_cons.mpr ⟨fun v hv => ?_, hx.1⟩, fun e he => ?_⟩
        · rcases List.mem_cons.mp hv with z | z
          · rw [z]
            exact hw
          · obtain ⟨y, hy, rfl⟩ := List.mem_map.mp z
            exact wlt_trans hw (hx.head y hy)
        · rcases List.mem_cons.mp he with z | z
          · rw [z]
            exact hn
          · exact hx.2 e z
    · rename_i hw
      split
      · rename_i he
        split
        · exact hx.tail
        · rename_i hn
          refine ⟨List.pairwise_cons.mpr ⟨fun v hv => ?_, hx.tail.1⟩, fun e hm => ?_⟩
          · obtain ⟨y, hy, rfl⟩ := List.mem_map.mp hv
            rw [he]
            exact hx.head y hy
          · rcases List.mem_cons.mp hm with z | z
            · rw [z]
              exact hn
            · exact hx.tail.2 e z
      · rename_i he
        have ih := ins_nf w n hx.tail
        have big : wlt x.1 w := by
          rcases wlt_tri w x.1 with z | z | z
          · exact absurd z hw
          · exact absurd z he
          · exact z
        refine ⟨List.pairwise_cons.mpr ⟨fun v hv => ?_, ih.1⟩, fun e hm => ?_⟩
        · obtain ⟨y, hy, rfl⟩ := List.mem_map.mp hv
          rcases ins_words w n r y hy with z | ⟨u, hu, z⟩
          · rw [z]
            exact big
          · rw [← z]
            exact hx.head u hu
        · rcases List.mem_cons.mp hm with z | z
          · rw [z]
            exact hx.2 x List.mem_cons_self
          · exact ih.2 e z
theorem nf_nf (ts : Terms) : Nf (nf ts) := by
  induction ts with
  | nil => exact ⟨List.Pairwise.nil, fun e h => by cases h⟩
  | cons e r ih => exact ins_nf e.1 e.2 ih
/-- sums over terms that see each word's number in all -/
theorem ins_sum (f : Wd → Int) (w : Wd) (n : Int) : ∀ ts : Terms, ((ins w n ts).map fun e => e.2 * f e.1).sum = n * f w + (ts.map fun e => e.2 * f e.1).sum
  | [] => by
    unfold ins
    split
    · rename_i h
      rw [h]
      simp
    · simp
  | x :: r => by
    unfold ins
    split
    · split
      · rename_i h
        rw [h]
        simp
      · simp
    · split
      · rename_i h
        split
        · rename_i hn
          have : n = -x.2 := by omega
          rw [this, h]
          simp only [List.map_cons, List.sum_cons]
          rw [Int.neg_mul]
          omega
        · simp only [List.map_cons, List.sum_cons]
          rw [h, Int.add_mul]
          omega
      · simp only [List.map_cons, List.sum_cons]
        rw [ins_sum f w n r]
        omega
theorem nf_sum (f : Wd → Int) (ts : Terms) : ((nf ts).map fun e => e.2 * f e.1).sum = (ts.map fun e => e.2 * f e.1).sum := by
  induction ts with
  | nil => rfl
  | cons e r ih =>
    show ((ins e.1 e.2 (nf r)).map fun e => e.2 * f e.1).sum = _
    rw [ins_sum, ih]
    rfl
theorem tot_sum (ts : Terms) (w : Wd) : tot ts w = (ts.map fun e => e.2 * if e.1 = w then 1 else 0).sum := by
  induction ts with
  | nil => rfl
  | cons e r ih =>
    show (if e.1 = w then e.2 else 0) + tot r w = _
    rw [ih]
    simp only [List.map_cons, List.sum_cons]
    split <;> simp
theorem nf_tot (ts : Terms) (w : Wd) : tot (nf ts) w = tot ts w := by
  rw [tot_sum, tot_sum]
  exact nf_sum (fun v => if v = w then 1 else 0) ts
theorem nf_words (ts : Terms) : ∀ e ∈ nf ts, ∃ x ∈ ts, x.1 = e.1 := by
  induction ts with
  | nil => intro e h; cases h
  | cons a r ih =>
    intro e h
    rcases ins_words a.1 a.2 (nf r) e h with z | ⟨y, hy, z⟩
    · exact ⟨a, List.mem_cons_self, z.symm⟩
    · obtain ⟨x, hx, q⟩ := ih y hy
      exact ⟨x, List.mem_cons_of_mem _ hx, q.trans z⟩
theorem nf_id {ts : Terms} (h : Nf ts) : nf ts = ts := Nf.ext (nf_nf ts) h fun w => nf_tot ts w
/-- what is normal and has these numbers -/
theorem nf_eq {ts us : Terms} (h : Nf us) (q : ∀ w, tot us w = tot ts w) : us = nf ts := Nf.ext h (nf_nf ts) fun w => by rw [q, nf_tot]
theorem nf_congr {ts us : Terms} (q : ∀ w, tot us w = tot ts w) : nf us = nf ts := nf_eq (nf_nf us) fun w => by rw [nf_tot, q]
/-- the sum of the numbers, each times the count of its word -/
def worth (ts : Terms) (t : Wd) : Int := (ts.map fun e => e.2 * ((cnt e.1 t : Nat) : Int)).sum
theorem worth_nf (ts : Terms) (t : Wd) : worth (nf ts) t = worth ts t := nf_sum (fun w => ((cnt w t : Nat) : Int)) ts
end Tm
set_option Elab.async false
set_option linter.all false
set_option maxRecDepth 100000
set_option maxHeartbeats 4000000
/-! Rx2: calls by keywords alone; reversed(text); enumerate and zip over texts and tuples -/
namespace Rx
open PySem PySem.Spec PyProof.Rows L2

/-! ### f(k = v, ..) -/
section
variable {X : Cx} {CX : CXT} {k : Nat} {f : Addr} {fd : FuncData} {ps ks : List PySem.Str} {g : List Value → List Value → List Value} {gV : List V → List V → List V} {sp : Sp} {E : XK} {x : PySem.Str} {np pos : Pos} {kws : List Keyword} {tk : TA}
def tCallK0 (sp : Sp) (gV : List V → List V → List V) (E : XK) (tk : TA) : TE := fun σ H Q => tk σ H fun zs H2 => sp (gV [] zs) H2 Q E
theorem pe_callK0 (F : FnOk X.prog X.w X.K X.mg X.base CX k f fd ps sp) (hr : Room k X.A) (hg : Gl X x) (hm : X.mg x = some (.ref f)) (hk : PySem.W.keepIn X.K (.ref f) = true) (hb : KBinds X.K fd ps ks g gV) (hx : Passes CX X E)
    (hkw : PK X kws tk) (hall : (backToKw pos (keywordEach kws X.env)).all (·.1.isSome) = true := by rfl) (hks : (backToKw pos (keywordEach kws X.env)).filterMap (·.1) = ks := by rfl)
    (hdb : (x == ("__debug__" : PySem.Str)) = false := by decide)
    (hpl : ((backTo pos (starEach [] X.env)).any (·.1) || (backToKw pos (keywordEach kws X.env)).any (·.1.isNone)) = false := by rfl) :
    PE X (.Call (.Name x np) [] kws pos) (tCallK0 sp gV E tk) := by
  refine ⟨fun pins s σ H Q I h => ?_⟩
  refine wpAny_Call_Name_kw (ld_glob I hg hm ?_ hdb)
  refine PySem.W.callWith_KW0 (h₀ := X.base) I.ok.mod.kin hk hall (thn (hkw.run pos pins s σ H _ I h) fun ws s2 ⟨zs, H2, I2, rz, q2⟩ => ⟨I2.kIn, ?_⟩) hpl
  rw [hks]
  exact run_fnk (us := []) (vs := []) F hr hb hx I2 .nil rz q2
end

/-! ### reversed(text) -/
theorem norev_str : typeLookup (.type "str") "__reversed__" = pure none := by rw [typeLookup_type, builtinLookup_eq_fast]; kernel_rfl
theorem get_str : typeLookup (.type "str") "__getitem__" = pure (some (.builtin "str.__getitem__")) := by rw [typeLookup_type, builtinLookup_eq_fast]; kernel_rfl
def rsObj (x : PySem.Str) (t : Tok) (i : Int) : Obj := { cls := .type "reversed", data := .fields #[.str x t, rawInt i] }
/-- reversed(x), the next place i -/
def IsRs (h : Heap) (a : Addr) (x : PySem.Str) (t : Tok) (i : Int) : Prop := ∃ o, h.get? a = some o ∧ o.cls = .type "reversed" ∧ o.data = .fields #[.str x t, rawInt i]
theorem IsRs.at {h h' : Heap} {a : Addr} {x : PySem.Str} {t : Tok} {i : Int} (z : IsRs h a x t i) (e : ∀ o, h.get? a = some o → h'.get? a = some o) : IsRs h' a x t i := let ⟨o, ho, r⟩ := z; ⟨o, e _ ho, r⟩
section
variable {prog : Program} {w : World} {A : Around} {E : Value → Shared → Prop} {s : Shared}
theorem IsRs.typeIs {a : Addr} {x : PySem.Str} {t : Tok} {i : Int} (z : IsRs s.heap a x t i) : s.TypeIs (.ref a) "reversed" := let ⟨o, ho, hc, _⟩ := z; ⟨o, ho, hc⟩
theorem code_reversed_str {x : PySem.Str} {t : Tok} {Q₁ : Value → Shared → Prop} (hfit : ¬ (x.length : Int) ≥ 2 ^ 63)
    (h : Q₁ (.ref s.heap.objs.size) { s with heap := s.heap.push (rsObj x t ((x.length : Int) - 1)), toks := s.toks + 1 + 1 }) :
    codeAny (model prog w) A (.call (.builtin "reversed.__new__") ⟨[.type "reversed", .str x t], []⟩) (wants Q₁ E) s := by
  have hT : s.TypeIs (.str x t) "str" := rfl
  refine codeAny_of_tree ?_
  show wpAny _ A.in1 (do checkBuiltinCall "reversed.__new__" ⟨[.type "reversed", .str x t], []⟩; again (.builtin "reversed.__new__" ⟨[.type "reversed", .str x t], []⟩)) _ _ s
  refine wpAny_bind (wpAny_of_eq (F.newCall_reversed_1 _) (wpAny_pure ⟨plainId_quiet F.plain_reversed_new _, codeAny_builtin F.entry_reversed_new ?_⟩))
  rw [Around.under_plainId F.plain_reversed_new _]
  unfold Builtin.«reversed.__new__»
  refine wpAny_bind (wpAny_of_eq (newClass_reversed _) ?_)
  try dsimp only
  refine wpAny_bind (wpAny_of_eq (a := ()) (by first | rfl | kernel_rfl) ?_)
  try dsimp only
  refine wpAny_bind (wpAny_of_eq (a := ()) (by first | rfl | kernel_rfl) ?_)
  try dsimp only
  refine wpAny_bind (wpAny_specialOf hT norev_str ?_)
  try dsimp only
  refine wpAny_bind ?_
  wp_delta
  refine wpAny_bind (wpAny_isInstance (T := "str") (U := "dict") (b := false) hT PySem.F.sub_str_dict ?_)
  try dsimp only
  try rw [if_neg Bool.false_ne_true]
  try dsimp only
  refine wpAny_bind (wpAny_specialOf hT get_str ?_)
  try dsimp only
  try rw [if_pos (by decide +kernel)]
  refine wpAny_pure ?_
  try dsimp only
  try rw [if_neg (by decide)]
  try dsimp only
  refine wpAny_bind (len_str hfit ?_)
  refine wpAny_bind (wpAny_of_eq (a := some ((x.length : Nat) : Int)) rfl ?_)
  try dsimp only
  refine wpAny_bind ?_
  show wpAny _ _ (newObj (.type "reversed") (.fields #[.str x t, rawInt ((x.length : Int) - 1)])) _ _ _
  refine wpAny_newObj_type ?_
  exact wpAny_pure h
theorem call_reversed_str {x : PySem.Str} {t : Tok} {Q : Value → Shared → Prop} (hfit : ¬ (x.length : Int) ≥ 2 ^ 63)
    (h : Q (.ref s.heap.objs.size) { s with heap := s.heap.push (rsObj x t ((x.length : Int) - 1)), toks := s.toks + 1 + 1 }) : wpAny (model prog w) A (call (.type "reversed") [.str x t]) Q E s := by
  refine callType_codes (Q₁ := fun obj s₁ => s₁.TypeIs obj "reversed" ∧ Q obj s₁) RT.called_rt (F.typeCall_reversed_1 _) F.entry_object_init
    (code_reversed_str (A := A.in1) hfit ⟨⟨_, Heap.get?_push_size _ rfl, rfl⟩, h⟩) fun obj s₁ h₁ => ?_
  exact ⟨h₁.1, F.args_object_init_2 obj _, object_init_meets RT.called_rt.init.lookup RT.called_rt.made (by decide) prog w A.in1 _ s₁ ⟨h₁.1, rfl, h₁.2⟩⟩
theorem next_rs_item {it : Addr} {x : PySem.Str} {t : Tok} {i c : Nat} {Q : Option Value → Shared → Prop} (hit : IsRs s.heap it x t (i : Int)) (hx : x.cps[i]? = some c) (hsz : x.cps.size ≤ sizeLine)
    (hQ : ∀ h', IsRs h' it x t ((i : Int) - 1) → Heap.SameBut it s.heap h' → Q (some (.str ⟨#[c]⟩ (s.toks + 1))) { s with heap := h', toks := s.toks + 1 + 1 }) : wpAny (model prog w) A (pyNext (.ref it)) Q E s := by
  obtain ⟨o, ho, hc, hd⟩ := id hit
  have hi : i < x.cps.size := (Array.getElem?_eq_some_iff.mp hx).1
  have hT : s.TypeIs (.str x t) "str" := rfl
  rw [sizeLine_eq] at hsz
  unfold pyNext
  refine wpAny_bind (wpAny_attempt (wpAny_callSpecial?_slot (name := Str.ofString "__next__") hit.typeIs RT.slot_rt_next
    (wpAny_call_entry RT.slot_rt_next hit.typeIs RT.entry_rt_next ?_ (RT.args_rt_next _))))
  unfold Builtin.«reversed.__next__»
  refine wpAny_bind (wpAny_of_eq (a := (Value.ref it, [])) rfl ?_)
  try dsimp only
  refine wpAny_bind (wpAny_field ho hd (x := .str x t) rfl ?_)
  try dsimp only
  refine wpAny_bind (wpAny_field ho hd (x := rawInt (i : Int)) rfl ?_)
  show wpAny _ _ (if (i : Int) < 0 then _ else _) _ _ s
  rw [if_neg (by omega)]
  try dsimp only
  refine wpAny_bind (wpAny_specialOf hT get_str ?_)
  try dsimp only
  try rw [if_neg (by decide)]
  try dsimp only
  refine wpAny_bind (wpAny_mkInt ?_)
  refine wpAny_bind (wpAny_attempt ?_)
  have fin : seqIndex? (i : Int) x.length = some i := seqIndex_of (by omega) (by show ((i : Nat) : Int) < (x.cps.size : Nat); omega)
  refine PyProof.Rows.getItem_str (s := { s with toks := s.toks + 1 }) (c := c) (by
    have e1 : decide ((i : Int) < -(2 ^ 63 : Int)) = false := decide_eq_false (by omega)
    have e2 : decide ((i : Int) ≥ 2 ^ 63) = false := decide_eq_false (by omega)
    rw [e1, e2, Bool.or_false]) (by rw [fin]; exact hx) ?_
  try dsimp only
  refine wpAny_bind (wpAny_field (s := { s with toks := s.toks + 1 + 1 }) ho hd (x := rawInt (i : Int)) rfl ?_)
  try dsimp only
  refine wpAny_bind (wpAny_setField (s := { s with toks := s.toks + 1 + 1 }) ho hd (by simp) ?_)
  first
  | refine wpAny_pure ⟨_, rfl, wpAny_pure (hQ _ ?_ (Heap.SameBut.update ..))⟩
  | refine wpAny_bind (wpAny_pure (wpAny_pure ⟨_, rfl, wpAny_pure (hQ _ ?_ (Heap.SameBut.update ..))⟩))
  exact ⟨_, Heap.get?_update_self _ ho (Obj.isFreed_of_fields (Obj.data_mapFields hd _)), (Obj.cls_mapFields ..).trans hc, by
    rw [Obj.data_mapFields hd]; simp⟩
theorem next_rs_end {it : Addr} {x : PySem.Str} {t : Tok} {Q : Option Value → Shared → Prop} (hh : A.handled = none) (hit : IsRs s.heap it x t (-1))
    (hQ : ∀ h', Heap.ExtBut it s.heap h' → Q none { s with heap := h' }) : wpAny (model prog w) A (pyNext (.ref it)) Q E s := by
  obtain ⟨o, ho, hc, hd⟩ := id hit
  unfold pyNext
  refine wpAny_bind (wpAny_attempt (wpAny_callSpecial?_slot (name := Str.ofString "__next__") hit.typeIs RT.slot_rt_next
    (wpAny_call_entry RT.slot_rt_next hit.typeIs RT.entry_rt_next ?_ (RT.args_rt_next _))))
  unfold Builtin.«reversed.__next__»
  refine wpAny_bind (wpAny_of_eq (a := (Value.ref it, [])) rfl ?_)
  try dsimp only
  refine wpAny_bind (wpAny_field ho hd (x := .str x t) rfl ?_)
  try dsimp only
  refine wpAny_bind (wpAny_field ho hd (x := rawInt (-1)) rfl ?_)
  show wpAny _ _ (if (-1 : Int) < 0 then _ else _) _ _ s
  rw [if_pos (by decide)]
  try dsimp only
  refine wpAny_bind (wpAny_rule ?_)
  refine wpAny_bind ?_
  wp_delta
  refine wpAny_bind (wpAny_setField ho hd (by simp) ?_)
  have ho2 := Heap.get?_update_self (Obj.mapFields (·.setIfInBounds 1 (rawInt (-1)))) ho (Obj.isFreed_of_fields (Obj.data_mapFields hd _))
  refine wpAny_setField (s := { s with heap := s.heap.update it (Obj.mapFields (·.setIfInBounds 1 (rawInt (-1)))) }) ho2 (Obj.data_mapFields hd _) (by simp) ?_
  try dsimp only
  first
  | show wpAny _ _ (newExc (.type "StopIteration") [] >>= _) _ _ _
  | (refine wpAny_bind ?_; show wpAny _ _ (newExc (.type "StopIteration") [] >>= _) _ _ _)
  | (refine wpAny_bind ?_; wp_delta; show wpAny _ _ (newExc (.type "StopIteration") [] >>= _) _ _ _)
  refine wpAny_bind ?_
  simp only [newExc, newTuple]
  refine wpAny_bind (wpAny_newObj_type ?_ (by size_fits))
  refine wpAny_bind (m := firstArgMember _ _) (wpAny_of_eq (a := Value.none) (by first | rfl | (simp only [firstArgMember]; rfl)) ?_)
  refine wpAny_newObj_type ?_ (by size_fits)
  simp only [raiseNew]
  refine wpAny_bind (wpAny_handled ?_)
  first | rw [show A.in1.handled = none from hh] | rw [hh]
  refine wpAny_bind (wpAny_pure (wpAny_throw ?_))
  refine wpAny_bind (wpAny_isInstance (T := "StopIteration") (b := true) ⟨_, Heap.get?_push_size _ rfl, rfl⟩ isSubtype_stop ?_)
  refine wpAny_pure (hQ _ ?_)
  refine ((?_ : Heap.ExtBut it s.heap _).push _).push _
  exact fun b ob hb e => (Heap.get?_update_other _ _ (Ne.symm hb)).trans ((Heap.get?_update_other _ _ (Ne.symm hb)).trans e)
theorem iter_rs {it : Addr} {x : PySem.Str} {t : Tok} {i : Int} {Q : Value → Shared → Prop} (hit : IsRs s.heap it x t i) (h : Q (.ref it) s) : wpAny (model prog w) A (pyIter (.ref it)) Q E s := by
  refine wpAny_pyIter_slot hit.typeIs RT.slot_rt_iter (wpAny_call_entry RT.slot_rt_iter hit.typeIs RT.entry_rt_iter ?_ (RT.args_rt_iter _))
  show wpAny _ _ (ret (.ref it)) _ _ s
  exact wpAny_pure ⟨_, rfl, "reversed", _, hit.typeIs, RT.slot_rt_next.lookup, h⟩
end
/-- a text's letters from its end -/
def ItRs (x : PySem.Str) : It := ⟨fun i _ => i < x.cps.size, fun i H v H' => H' = H ∧ ∃ c, x.cps[x.cps.size - 1 - i]? = some c ∧ v = .str ⟨#[c]⟩, fun i _ => x.cps.size ≤ i⟩
theorem turn_rs {P : Program} {w : World} {K : PySem.W.Frag} {tg : Expr} (it : Addr) (x : PySem.Str) (t : Tok) (hz : x.cps.size ≤ sizeLine) : Turn P w K tg (ItRs x) [it] it (fun i h => i ≤ x.cps.size ∧ IsRs h it x t ((x.cps.size : Int) - 1 - (i : Nat))) where
  mem := by simp
  obj := fun i h st b hb => by
    have e : b = it := by simpa using hb
    subst e
    obtain ⟨_, o, e, c, d⟩ := st
    exact ⟨o, e, fun v z => by rw [d] at z; cases z⟩
  keep := fun i h h' st k => ⟨st.1, st.2.at fun o e => k it (by simp) o e⟩
  item := by
    intro X hP hw hK hc i pins s σ H E I hf st hg
    subst hP hw hK
    have hin : i < x.cps.size := hg
    obtain ⟨f0, f1, f2, f3, f4, f5⟩ := hf it (by simp)
    obtain ⟨_, hit⟩ := st
    have e1 : (x.cps.size : Int) - 1 - ((i : Nat) : Int) = ((x.cps.size - 1 - i : Nat) : Int) := by omega
    rw [e1] at hit
    have hlt : x.cps.size - 1 - i < x.cps.size := by omega
    have hx : x.cps[x.cps.size - 1 - i]? = some (x.cps[x.cps.size - 1 - i]) := Array.getElem?_eq_getElem hlt
    refine next_rs_item hit hx hz fun h' st' sb => ?_
    have e2 : ((x.cps.size - 1 - i : Nat) : Int) - 1 = (x.cps.size : Int) - 1 - ((i + 1 : Nat) : Int) := by omega
    rw [e2] at st'
    have I1 : Inv X pins σ H { s with heap := h', toks := s.toks + 1 + 1 } := I.turned (t' := s.toks + 1 + 1) (fun b o hb e => (sb.2 b hb).trans e) f0 f1 f3 f4 f5
    obtain ⟨o, e, c, d⟩ := id st'
    exact ⟨_, rfl, go_of (s := { s with heap := h', toks := s.toks + 1 + 1 }) e c d (by decide) ⟨.str ⟨#[x.cps[x.cps.size - 1 - i]]⟩, H, I1, ⟨_, rfl⟩, ⟨rfl, _, hx, rfl⟩, ⟨hin, st'⟩, fun b hb => (hf b hb).1⟩⟩
  done := by
    intro X hP hw hK hc i pins s σ H E I hf st hg
    subst hP hw hK
    obtain ⟨f0, f1, f2, f3, f4, f5⟩ := hf it (by simp)
    obtain ⟨hin, hit⟩ := st
    have hge : x.cps.size ≤ i := hg
    have e1 : (x.cps.size : Int) - 1 - ((i : Nat) : Int) = -1 := by omega
    rw [e1] at hit
    exact next_rs_end (I.ok.hd hc) hit fun h' eb => ⟨rfl, I.turned (t' := s.toks) (fun b o hb e => eb b o hb e) f0 f1 f3 f4 f5⟩
  self := fun A i s Q E st h => iter_rs st.2 h
def iRevS (ta : TA) : TI := fun σ H R => ta σ H fun vs H1 => ∃ x : PySem.Str, vs = [.str x] ∧ x.cps.size ≤ sizeLine ∧ R (ItRs x) H1
theorem pi_revS {X : Cx} {tg e : Expr} {ta : TA} {p pos : Pos} (hg : Gl X "reversed") (hm : X.mg "reversed" = none) (ha : PA X [e] ta) (hs : starEach [e] X.env = [(false, eval e X.env)] := by rfl) : PI X tg (.Call (.Name "reversed" p) [e] [] pos) (iRevS ta) := by
  refine ⟨fun pins s σ H R I h => ?_⟩
  refine Call_ (ld_blt I hg hm PyProof.Rows.boot_reversed (PyProof.Rows.callWith_type1 (thn (ha.run pos pins s σ H _ I h) fun us s1 ⟨vs, H1, I1, r1, q1⟩ => ?_) hs rfl))
  obtain ⟨x, e, hz, q⟩ := q1
  subst e
  cases r1 with
  | cons r rr =>
    cases rr
    obtain ⟨t, rfl⟩ := r
    have hl : x.length = x.cps.size := rfl
    have hz' := hz
    rw [sizeLine_eq] at hz'
    have e1 : ((x.length : Nat) : Int) - 1 = (x.cps.size : Int) - 1 - ((0 : Nat) : Int) := by rw [hl]; omega
    have st0 : IsRs (s1.heap.push (rsObj x t ((x.length : Int) - 1))) s1.heap.objs.size x t ((x.length : Int) - 1) := ⟨_, Heap.get?_push_size _ rfl, rfl, rfl⟩
    refine call_reversed_str (by rw [hl]; omega) (iter_rs st0 ?_)
    refine pi_one (tk := s1.toks + 1 + 1) I1 _ (turn_rs _ x t hz) ⟨Nat.zero_le _, ?_⟩ q
    rw [← e1]
    exact st0
/-- the turns -/
theorem for_revS {x : PySem.Str} {g : TG} {tb : TS} {D : Ends} {σ : L2.St} {H : Hp} (Pv : Nat → L2.St → Hp → Prop) (h0 : Pv 0 σ H)
    (hs : ∀ i c σ H, i < x.cps.size → x.cps[x.cps.size - 1 - i]? = some c → Pv i σ H → g (.str ⟨#[c]⟩) σ H fun σ2 H2 => tb { D with nx := Pv (i + 1), ct := Pv (i + 1), bk := D.nx } σ2 H2) (hd : ∀ σ H, Pv x.cps.size σ H → D.nx σ H) :
    ∃ W : Nat → Nat → L2.St → Hp → Prop, (∃ m, W 0 m σ H) ∧ ∀ i m σ H, W i m σ H →
      ((ItRs x).stop i H ∧ D.nx σ H) ∨ ((ItRs x).go i H ∧ ∃ N : L2.St → Hp → Prop, (∀ σ' H', N σ' H' → ∃ m', m' < m ∧ W (i + 1) m' σ' H') ∧ ∀ v H', (ItRs x).yld i H v H' → g v σ H' fun σ2 H2 => tb { D with nx := N, ct := N, bk := D.nx } σ2 H2) := by
  refine ⟨fun i m σ H => m = x.cps.size - i ∧ i ≤ x.cps.size ∧ Pv i σ H, ⟨x.cps.size, rfl, Nat.zero_le _, h0⟩, ?_⟩
  rintro i m σ H ⟨rfl, hi, p⟩
  by_cases hlt : i < x.cps.size
  · refine .inr ⟨hlt, Pv (i + 1), fun σ' H' p' => ⟨x.cps.size - (i + 1), by omega, rfl, hlt, p'⟩, fun v H' y => ?_⟩
    obtain ⟨rfl, c, hc, rfl⟩ := y
    exact hs i c σ _ hlt hc p
  · have e : i = x.cps.size := by omega
    subst e
    exact .inl ⟨Nat.le_refl _, hd σ H p⟩
end Rx
set_option Elab.async false
set_option linter.all false
set_option maxRecDepth 100000
set_option maxHeartbeats 4000000
/-! Rx3: enumerate and zip over texts and tuples -/
namespace Rx
open PySem PySem.Spec PyProof.Rows L2

/-! ### enumerate of whatever begins -/
set_option maxHeartbeats 1000000 in
theorem meets_enumerate_new1 {v : Value} {o : Obj} {H : Heap → Prop} (B : Begins v o H) :
    Meets (Builtin.«enumerate.__new__» ⟨[.type "enumerate", v], []⟩) (fun _ R s => H s.heap ∧
      R (.ok (.ret (.ref (s.heap.push o).objs.size))) { s with heap := (s.heap.push o).push { cls := .type "enumerate", data := .fields #[.none, .bool false, .ref s.heap.objs.size, rawInt 0, .none, .none] } }) :=
  .of_wp fun prog w A R s h => by
    obtain ⟨hp, g, d, tk, os⟩ := s; obtain ⟨h1, h⟩ := h
    have hsub := sub_enumerate
    have q1 : ∀ {A' : Around} {E : Value → Shared → Prop} {Q : Value → Shared → Prop}, Q (.ref hp.objs.size) ⟨hp.push o, g, d, tk, os⟩ → wpAny (model prog w) A' (pyIter v) Q E ⟨hp, g, d, tk, os⟩ :=
      fun q => B.iter prog w _ _ ⟨hp, g, d, tk, os⟩ _ h1 q
    wp_walk using q1
    refine wpAny_stack_any fun st => wpAny_pure ?_
    split
    · rename_i c _ _ _ _ _
      cases (c == Value.type "enumerate")
      · wp_walk using q1
        exact ⟨_, rfl, h⟩
      · wp_walk using q1
        exact ⟨_, rfl, h⟩
    · wp_walk using q1
      exact ⟨_, rfl, h⟩
section
variable {prog : Program} {w : World} {A : Around} {E : Value → Shared → Prop} {s : Shared}
theorem enum_begins1 {v : Value} {o : Obj} {H : Heap → Prop} {Q : Value → Shared → Prop} (B : Begins v o H) (h1 : H s.heap)
    (h : ∀ h', IsEnum h' (s.heap.objs.size + 1) s.heap.objs.size 0 .none → h'.get? s.heap.objs.size = some o → h'.objs.size = s.heap.objs.size + 2 →
      (∀ b o, s.heap.get? b = some o → h'.get? b = some o) → Q (.ref (s.heap.objs.size + 1)) { s with heap := h' }) :
    wpAny (model prog w) A (call (.type "enumerate") [v]) Q E s := by
  refine callType_new F.called_enumerate (by decide) (F.typeCall_enumerate_1 _) (F.newCall_enumerate_1 _) (fun obj => F.args_object_init_2 obj _) F.entry_enumerate_new
    (meets_enumerate_new1 B) ⟨h1, ?_⟩
  have hz : (s.heap.push o).objs.size = s.heap.objs.size + 1 := Heap.size_push ..
  show _ ∧ _
  rw [hz]
  have he : IsEnum ((s.heap.push o).push { cls := .type "enumerate", data := .fields #[.none, .bool false, .ref s.heap.objs.size, rawInt 0, .none, .none] }) (s.heap.objs.size + 1) s.heap.objs.size 0 .none := by
    have := Heap.get?_push_size (s.heap.push o) (o := { cls := .type "enumerate", data := .fields #[.none, .bool false, .ref s.heap.objs.size, rawInt 0, .none, .none] }) rfl
    rw [hz] at this; exact this
  refine ⟨⟨_, he, rfl⟩, h _ he (Heap.get?_push_of_some _ (Heap.get?_push_size _ B.free)) (by rw [Heap.size_push, hz]) fun b o x => Heap.get?_push_of_some _ (Heap.get?_push_of_some _ x)⟩
end

/-! ### sources: what is walked by an iterator it, the cells rest beside it -/
/-- has H xs: what the source holds in H; tn: the iterator's state -/
structure Fed (P : Program) (w : World) (K : PySem.W.Frag) (it : Addr) (rest : List Addr) (has : Hp → List V → Prop) (tn : Nat → Heap → Prop) : Prop where
  obj : ∀ i h, tn i h → ∃ o, h.get? it = some o ∧ ∀ v, o.data ≠ .cell v
  keep : ∀ i h h', tn i h → (∀ o, h.get? it = some o → h'.get? it = some o) → tn i h'
  one : ∀ (X : Cx), X.prog = P → X.w = w → X.K = K → ∀ (pins : List (Addr × Obj)) (s : Shared) (σ : L2.St) (H : Hp) (xs ys : List V), Inv X pins σ H s → has H xs → has H ys → xs = ys
  draw : ∀ (X : Cx), X.prog = P → X.w = w → X.K = K → X.calm = true → ∀ (pins : List (Addr × Obj)) (s : Shared) (σ : L2.St) (H : Hp) (xs : List V), Inv X pins σ H s → has H xs →
    ∃ (Pt : Nat → Value → Prop) (St : Nat → Heap → Prop), Draws P w X.A.in1 it (it :: rest) xs.length Pt St ∧ (∀ i, tn i s.heap → St i s.heap) ∧ (∀ i h, St i h → tn i h) ∧ ∀ i v, Pt i v → ∃ x, xs[i]? = some x ∧ RelV x v
theorem fed_text {P : Program} {w : World} {K : PySem.W.Frag} (it : Addr) (x : PySem.Str) (t : Tok) : Fed P w K it [] (fun _ xs => xs = (Sx.sgs x).map V.str) (fun i h => h.IsStrIter it (strIterType x) x t i) where
  obj := fun i h st => by
    obtain ⟨o, e, c, d⟩ := st
    exact ⟨o, e, fun v z => by rw [d] at z; cases z⟩
  keep := fun i h h' st k => let ⟨o, ho, r⟩ := st; ⟨o, k o ho, r⟩
  one := fun X _ _ _ pins s σ H xs ys _ h1 h2 => by rw [h1, h2]
  draw := by
    intro X hP hw hK hc pins s σ H xs I hh
    subst hP hw hK
    have D := Draws.text (prog := X.prog) (w := X.w) (A := X.A.in1) (I.ok.hd hc) it x t
    have hl : x.cps.size = xs.length := by rw [hh, List.length_map, Sx.sgs, List.length_map, Array.length_toList]
    rw [hl] at D
    refine ⟨_, _, D, fun i z => z, fun i h z => z, fun i v hp => ?_⟩
    obtain ⟨c, u, hc, rfl⟩ := hp
    exact ⟨.str ⟨#[c]⟩, by rw [hh, List.getElem?_map, Sx.sgs, List.getElem?_map, Array.getElem?_toList, hc] <;> rfl, u, rfl⟩
theorem fed_tup {P : Program} {w : World} {K : PySem.W.Frag} (it a : Addr) (hne : a ≠ it) : Fed P w K it [a] (fun H xs => SqT K H a xs) (fun i h => h.IsTupleIter it a i) where
  obj := fun i h st => by
    obtain ⟨o, e, c, d⟩ := st
    exact ⟨o, e, fun v z => by rw [d] at z; cases z⟩
  keep := fun i h h' st k => st.at fun o e => k o e
  one := by
    intro X hP hw hK pins s σ H xs ys I h1 h2
    subst hP hw hK
    exact I.tuple_inj h1 h2
  draw := by
    intro X hP hw hK hc pins s σ H xs I hh
    subst hP hw hK
    obtain ⟨its, rv, p, hz⟩ := I.tuple hh
    have D := Draws.tuple (prog := X.prog) (w := X.w) (A := X.A.in1) (I.ok.hd hc) it a hne its.toArray
    have hl : its.toArray.size = xs.length := by rw [List.size_toArray, rv.length]
    rw [hl] at D
    refine ⟨_, _, D, fun i z => ⟨z, p⟩, fun i h z => z.1, fun i v hp => ?_⟩
    have hp' : its[i]? = some v := by simpa using hp
    have hi : i < xs.length := by rw [rv.length]; exact (List.getElem?_eq_some_iff.mp hp').1
    have hx : xs[i]? = some xs[i] := List.getElem?_eq_getElem hi
    obtain ⟨u, hu, ru⟩ := rv.get hx
    rw [hp'] at hu
    cases hu
    exact ⟨_, hx, ru⟩

/-! ### enumerate -/
def Itf (has : Hp → List V → Prop) : It :=
  ⟨fun i H => ∃ (xs : List V) (x : V), has H xs ∧ xs[i]? = some x, fun i H v H' => ∃ T x, v = .ref T ∧ H T = none ∧ H' = upd H T (.tup [.int (i : Nat), x]) ∧ ∀ xs, has H xs → xs[i]? = some x, fun i H => ∃ xs : List V, has H xs ∧ xs.length = i⟩
theorem turn_enumF {P : Program} {w : World} {K : PySem.W.Frag} {elts : List Expr} {kk : Nat} {tpos : Pos} {has : Hp → List V → Prop} {tn : Nat → Heap → Prop} {rest : List Addr} (e it : Addr) (Fd : Fed P w K it rest has tn) (hne : e ≠ it) (hr : e ∉ rest) :
    Turn P w K (.Tuple elts kk tpos) (Itf has) [e, it] e (fun i h => (∃ old, IsEnum h e it ((i : Nat) : Int) old) ∧ tn i h) where
  mem := by simp
  obj := fun i h st b hb => by
    obtain ⟨⟨old, he⟩, ht⟩ := st
    have e' : b = e ∨ b = it := by simpa using hb
    rcases e' with z | z
    · rw [z]; exact ⟨_, he, fun v q => nomatch q⟩
    · rw [z]; exact Fd.obj i h ht
  keep := fun i h h' st k => let ⟨⟨old, he⟩, ht⟩ := st; ⟨⟨old, k e (by simp) _ he⟩, Fd.keep i h h' ht fun o q => k it (by simp) o q⟩
  item := by
    intro X hP hw hK hc i pins s σ H E I hf st hg
    obtain ⟨⟨old, he⟩, ht⟩ := st
    obtain ⟨xs, x0, hq, hx0⟩ := hg
    obtain ⟨Pt, St, D, d1, d2, d3⟩ := Fd.draw X hP hw hK hc pins s σ H xs I hq
    have hi : i < xs.length := (List.getElem?_eq_some_iff.mp hx0).1
    have hel : e < s.heap.objs.size := Heap.lt_size he
    have hil : it < s.heap.objs.size := by obtain ⟨o, q, _⟩ := Fd.obj i _ ht; exact Heap.lt_size q
    have hef : e ∉ it :: rest := fun z => by
      rcases List.mem_cons.mp z with z | z
      · exact hne z
      · exact hr z
    refine wpAny_pyNext_enum_itemD D he (d1 i ht) hi hne hef fun u h' tk hp ho hit' hT hsz hk => ?_
    obtain ⟨x, hx, ru⟩ := d3 i u hp
    refine ⟨_, rfl, wpAny_letOwnedTupleGo_enum (s := { s with heap := h', toks := tk + 1 }) ho fun h'' he' sb => ?_⟩
    have hT2 : h''.get? s.heap.objs.size = some { cls := .type "tuple", data := .seq #[.int i tk, u] } := (sb.2 _ (Nat.ne_of_gt hel)).trans hT
    have new : ObjOk X.prog X.w (upd H s.heap.objs.size (.tup [.int (i : Nat), x])) h'' s.heap.objs.size (.tup [.int (i : Nat), x]) :=
      ⟨by show 2 ≤ sizeLine; decide, [.int i tk, u], .cons ⟨_, rfl⟩ (.cons ru .nil), ⟨_, hT2, rfl, _, rfl⟩⟩
    have I1 : Inv X pins σ (upd H s.heap.objs.size (.tup [.int (i : Nat), x])) { s with heap := h'', toks := tk + 1 } :=
      I.turnedNew (ch := [e, it]) (fun b ob hb q => (sb.2 b (fun z => hb (by simp [z]))).trans (hk b ob (fun z => hb (by simp [z])) (fun z => hb (by simp [z])) q)) hf (Nat.le_refl _) new
    refine ⟨.ref s.heap.objs.size, _, I1, rfl, ⟨_, x, rfl, I.hok.fresh (Nat.le_refl _), rfl, fun ys hy => by rw [Fd.one X hP hw hK pins s σ H ys xs I hy hq]; exact hx⟩, ⟨⟨u, ?_⟩, Fd.keep _ _ _ (d2 _ _ hit') fun o q => (sb.2 it (Ne.symm hne)).trans q⟩, fun b hb => ?_⟩
    · have e1 : ((i + 1 : Nat) : Int) = (i : Int) + 1 := by omega
      rw [e1]; exact he'
    · have hb' : b < s.heap.objs.size := by
        have e' : b = e ∨ b = it := by simpa using hb
        rcases e' with z | z
        · rw [z]; exact hel
        · rw [z]; exact hil
      rw [upd_ne (Nat.ne_of_lt hb')]
      exact (hf b hb).1
  done := by
    intro X hP hw hK hc i pins s σ H E I hf st hg
    obtain ⟨⟨old, he⟩, ht⟩ := st
    obtain ⟨xs, hq, hx⟩ := hg
    obtain ⟨Pt, St, D, d1, d2, d3⟩ := Fd.draw X hP hw hK hc pins s σ H xs I hq
    obtain ⟨f0, f1, f2, f3, f4, f5⟩ := hf it (by simp)
    exact wpAny_pyNext_enum_endD D he (hx ▸ d1 i ht) fun h' eb => ⟨rfl, I.turned (t' := s.toks) (fun b o hb q => eb b o hb q) f0 f1 f3 f4 f5⟩
  self := fun A i s Q E st h => let ⟨⟨_, he⟩, _⟩ := st; wpAny_pyIter_enum he h
/-- enumerate(x), x a text -/
def iEnumS (ta : TA) : TI := fun σ H R => ta σ H fun vs H1 => ∃ x : PySem.Str, vs = [.str x] ∧ R (Itf fun _ xs => xs = (Sx.sgs x).map V.str) H1
/-- enumerate(x), x a tuple -/
def iEnumT (K : PySem.W.Frag) (ta : TA) : TI := fun σ H R => ta σ H fun vs H1 => ∃ a xs, vs = [.ref a] ∧ SqT K H1 a xs ∧ R (Itf fun H xs => SqT K H a xs) H1
section
variable {X : Cx} {e : Expr} {ta : TA} {p pos tpos : Pos} {elts : List Expr} {kk : Nat}
theorem pi_enumS (hg : Gl X "enumerate") (hm : X.mg "enumerate" = none) (ha : PA X [e] ta) (hs : starEach [e] X.env = [(false, eval e X.env)] := by rfl) :
    PI X (.Tuple elts kk tpos) (.Call (.Name "enumerate" p) [e] [] pos) (iEnumS ta) := by
  refine ⟨fun pins s σ H R I h => ?_⟩
  refine Call_ (ld_blt I hg hm boot_enumerate (PyProof.Rows.callWith_type1 (thn (ha.run pos pins s σ H _ I h) fun us s1 ⟨vs, H1, I1, r1, q1⟩ => ?_) hs rfl))
  obtain ⟨x, ex, q⟩ := q1
  subst ex
  cases r1 with
  | cons r rr =>
    cases rr
    obtain ⟨t, rfl⟩ := r
    refine enum_begins1 (begins_text x t) trivial fun h' he hit hsz hk => wpAny_pyIter_enum he ?_
    have I2 : Inv X pins σ H1 { s1 with heap := h' } := I1.kept (t' := s1.toks) hk
    refine ⟨s1.heap.objs.size + 1, [s1.heap.objs.size + 1, s1.heap.objs.size], _, _, H1, rfl, I2, turn_enumF (s1.heap.objs.size + 1) s1.heap.objs.size (fed_text _ x t) (Nat.succ_ne_self _) (by simp), ⟨⟨.none, he⟩, ⟨_, hit, rfl, rfl⟩⟩, fun b hb => ?_, q⟩
    have e' : b = s1.heap.objs.size + 1 ∨ b = s1.heap.objs.size := by simpa using hb
    have hle : s1.heap.objs.size ≤ b := by
      rcases e' with z | z
      · rw [z]; exact Nat.le_add_right _ _
      · rw [z]; exact Nat.le_refl _
    exact I1.fpOk hle (I1.hok.fresh hle)
theorem pi_enumT (hg : Gl X "enumerate") (hm : X.mg "enumerate" = none) (ha : PA X [e] ta) (hs : starEach [e] X.env = [(false, eval e X.env)] := by rfl) :
    PI X (.Tuple elts kk tpos) (.Call (.Name "enumerate" p) [e] [] pos) (iEnumT X.K ta) := by
  refine ⟨fun pins s σ H R I h => ?_⟩
  refine Call_ (ld_blt I hg hm boot_enumerate (PyProof.Rows.callWith_type1 (thn (ha.run pos pins s σ H _ I h) fun us s1 ⟨vs, H1, I1, r1, q1⟩ => ?_) hs rfl))
  obtain ⟨a, xs, ex, hq, q⟩ := q1
  subst ex
  cases r1 with
  | cons r rr =>
    cases rr
    cases r
    obtain ⟨its, rv, p1, hz⟩ := I1.tuple hq
    have hlt : a < s1.heap.objs.size := by obtain ⟨o, ho, _⟩ := id p1; exact Heap.lt_size ho
    refine enum_begins1 (begins_tuple a its.toArray) p1 fun h' he hit hsz hk => wpAny_pyIter_enum he ?_
    have I2 : Inv X pins σ H1 { s1 with heap := h' } := I1.kept (t' := s1.toks) hk
    refine ⟨s1.heap.objs.size + 1, [s1.heap.objs.size + 1, s1.heap.objs.size], _, _, H1, rfl, I2, turn_enumF (s1.heap.objs.size + 1) s1.heap.objs.size (fed_tup _ a (Nat.ne_of_lt hlt)) (Nat.succ_ne_self _) (by
      simp only [List.mem_singleton]
      exact Nat.ne_of_gt (Nat.lt_succ_of_lt hlt)), ⟨⟨.none, he⟩, ⟨_, hit, rfl, rfl⟩⟩, fun b hb => ?_, q⟩
    have e' : b = s1.heap.objs.size + 1 ∨ b = s1.heap.objs.size := by simpa using hb
    have hle : s1.heap.objs.size ≤ b := by
      rcases e' with z | z
      · rw [z]; exact Nat.le_add_right _ _
      · rw [z]; exact Nat.le_refl _
    exact I1.fpOk hle (I1.hok.fresh hle)
end

/-! ### zip -/
def Itzf (has1 has2 : Hp → List V → Prop) : It :=
  ⟨fun i H => ∃ (xs ys : List V) (x y : V), has1 H xs ∧ has2 H ys ∧ xs[i]? = some x ∧ ys[i]? = some y,
    fun i H v H' => ∃ T x y, v = .ref T ∧ H T = none ∧ H' = upd H T (.tup [x, y]) ∧ (∀ xs, has1 H xs → xs[i]? = some x) ∧ ∀ ys, has2 H ys → ys[i]? = some y,
    fun i H => ∃ xs ys : List V, has1 H xs ∧ has2 H ys ∧ i ≤ xs.length ∧ i ≤ ys.length ∧ (i = xs.length ∨ i = ys.length)⟩
theorem turn_zipF {P : Program} {w : World} {K : PySem.W.Frag} {elts : List Expr} {kk : Nat} {tpos : Pos} {has1 has2 : Hp → List V → Prop} {tn1 tn2 : Nat → Heap → Prop} {rest1 rest2 : List Addr} {z TI TO i1 i2 : Addr} (F1 : Fed P w K i1 rest1 has1 tn1) (F2 : Fed P w K i2 rest2 has2 tn2) (S : ZipSep2 z TI TO i1 i2 (i1 :: rest1) (i2 :: rest2)) :
    Turn P w K (.Tuple elts kk tpos) (Itzf has1 has2) [z, TI, TO, i1, i2] z (fun i h => IsZip h z TI TO .none ∧ IsTupOf2 h TI (.ref i1) (.ref i2) ∧ (∃ x y, IsTupOf2 h TO x y) ∧ tn1 i h ∧ tn2 i h) where
  mem := by simp
  obj := fun i h st c hc => by
    obtain ⟨hz, hTI, ⟨x, y, hTO⟩, h1, h2⟩ := st
    have e' : c = z ∨ c = TI ∨ c = TO ∨ c = i1 ∨ c = i2 := by simpa using hc
    rcases e' with q | q | q | q | q
    · rw [q]; exact ⟨_, hz, fun v q => nomatch q⟩
    · rw [q]; exact ⟨_, hTI, fun v q => nomatch q⟩
    · rw [q]; exact ⟨_, hTO, fun v q => nomatch q⟩
    · rw [q]; exact F1.obj i h h1
    · rw [q]; exact F2.obj i h h2
  keep := fun i h h' st k => by
    obtain ⟨hz, hTI, ⟨x, y, hTO⟩, h1, h2⟩ := st
    exact ⟨k z (by simp) _ hz, k TI (by simp) _ hTI, ⟨x, y, k TO (by simp) _ hTO⟩, F1.keep i h h' h1 fun o q => k i1 (by simp) o q, F2.keep i h h' h2 fun o q => k i2 (by simp) o q⟩
  item := by
    intro X hP hw hK hc i pins s σ H E I hf st hg
    obtain ⟨hz, hTI, ⟨x0, y0, hTO⟩, h1, h2⟩ := st
    obtain ⟨xs, ys, xa, ya, hqx, hqy, hxa, hya⟩ := hg
    obtain ⟨Pt1, St1, D1, a1, a2, a3⟩ := F1.draw X hP hw hK hc pins s σ H xs I hqx
    obtain ⟨Pt2, St2, D2, b1, b2, b3⟩ := F2.draw X hP hw hK hc pins s σ H ys I hqy
    have hzl : z < s.heap.objs.size := Heap.lt_size hz
    have g1 : i1 < s.heap.objs.size := by obtain ⟨o, q, _⟩ := F1.obj i _ h1; exact Heap.lt_size q
    have g2 : i2 < s.heap.objs.size := by obtain ⟨o, q, _⟩ := F2.obj i _ h2; exact Heap.lt_size q
    refine wpAny_pyNext_zipD2_item S D1 D2 hz hTI hTO (a1 i h1) (b1 i h2) (List.getElem?_eq_some_iff.mp hxa).1 (List.getElem?_eq_some_iff.mp hya).1 fun u u2 h' tk hp1 hp2 z' TO' h1' h2' hT hsz hk => ?_
    obtain ⟨x, hx, ru⟩ := a3 i u hp1
    obtain ⟨y, hy, ru2⟩ := b3 i u2 hp2
    refine ⟨_, rfl, wpAny_letOwnedTupleGo_zip (s := { s with heap := h', toks := tk }) z' fun h'' z'' sb => ?_⟩
    have hT2 : h''.get? s.heap.objs.size = some { cls := .type "tuple", data := .seq #[u, u2] } := (sb.2 _ (Nat.ne_of_gt hzl)).trans hT
    have new : ObjOk X.prog X.w (upd H s.heap.objs.size (.tup [x, y])) h'' s.heap.objs.size (.tup [x, y]) :=
      ⟨by show 2 ≤ sizeLine; decide, [u, u2], .cons ru (.cons ru2 .nil), ⟨_, hT2, rfl, _, rfl⟩⟩
    have I1 : Inv X pins σ (upd H s.heap.objs.size (.tup [x, y])) { s with heap := h'', toks := tk } :=
      I.turnedNew (t' := tk) (ch := [z, TI, TO, i1, i2]) (fun c o hb q => (sb.2 c (fun q' => hb (by simp [q']))).trans (hk c o (fun q' => hb (by simp [q'])) (fun q' => hb (by simp [q'])) (fun q' => hb (by simp [q'])) (fun q' => hb (by simp [q'])) q)) hf (Nat.le_refl _) new
    refine ⟨.ref s.heap.objs.size, _, I1, rfl, ⟨_, x, y, rfl, I.hok.fresh (Nat.le_refl _), rfl, fun l hl => by rw [F1.one X hP hw hK pins s σ H l xs I hl hqx]; exact hx, fun l hl => by rw [F2.one X hP hw hK pins s σ H l ys I hl hqy]; exact hy⟩, ⟨z'', ?_, ⟨u, u2, ?_⟩, ?_, ?_⟩, fun c hcm => ?_⟩
    · exact (sb.2 _ S.TIz).trans (hk _ _ S.TIz S.TITO S.TIi1 S.TIi2 hTI)
    · exact (sb.2 _ S.TOz).trans TO'
    · exact F1.keep _ _ _ (a2 _ _ h1') fun o q => (sb.2 _ (Ne.symm S.zi1)).trans q
    · exact F2.keep _ _ _ (b2 _ _ h2') fun o q => (sb.2 _ (Ne.symm S.zi2)).trans q
    · have hlt : c < s.heap.objs.size := by
        have e' : c = z ∨ c = TI ∨ c = TO ∨ c = i1 ∨ c = i2 := by simpa using hcm
        rcases e' with q | q | q | q | q
        · rw [q]; exact hzl
        · rw [q]; exact Heap.lt_size hTI
        · rw [q]; exact Heap.lt_size hTO
        · rw [q]; exact g1
        · rw [q]; exact g2
      rw [upd_ne (Nat.ne_of_lt hlt)]
      exact (hf c hcm).1
  done := by
    intro X hP hw hK hc i pins s σ H E I hf st hg
    obtain ⟨hz, hTI, ⟨x0, y0, hTO⟩, h1, h2⟩ := st
    obtain ⟨xs, ys, hqx, hqy, l1, l2, hend⟩ := hg
    obtain ⟨Pt1, St1, D1, a1, a2, a3⟩ := F1.draw X hP hw hK hc pins s σ H xs I hqx
    obtain ⟨Pt2, St2, D2, b1, b2, b3⟩ := F2.draw X hP hw hK hc pins s σ H ys I hqy
    exact wpAny_pyNext_zipD2_end S D1 D2 hz hTI hTO (a1 i h1) (b1 i h2) l1 l2 hend fun h' tk hk => ⟨rfl, I.turnedL (t' := tk) (ch := [z, TI, TO, i1, i2]) (fun c o hb q =>
      hk c o (fun q' => hb (by simp [q'])) (fun q' => hb (by simp [q'])) (fun q' => hb (by simp [q'])) (fun q' => hb (by simp [q'])) q) hf⟩
  self := fun A i s Q E st h => wpAny_pyIter_zip st.1 h
/-- zip(x, t), x a text, t a tuple -/
def iZipST (K : PySem.W.Frag) (ta : TA) : TI := fun σ H R => ta σ H fun vs H1 => ∃ (x : PySem.Str) (a : Addr) (ys : List V), vs = [.str x, .ref a] ∧ SqT K H1 a ys ∧ R (Itzf (fun _ xs => xs = (Sx.sgs x).map V.str) fun H xs => SqT K H a xs) H1
theorem pi_zipST {X : Cx} {e e2 : Expr} {ta : TA} {p pos tpos : Pos} {elts : List Expr} {kk : Nat} (hg : Gl X "zip") (hm : X.mg "zip" = none) (ha : PA X [e, e2] ta)
    (hs : starEach [e, e2] X.env = (false, eval e X.env) :: starEach [e2] X.env := by rfl) (hpl : (backTo pos (starEach [e2] X.env)).any (·.1) = false := by rfl) :
    PI X (.Tuple elts kk tpos) (.Call (.Name "zip" p) [e, e2] [] pos) (iZipST X.K ta) := by
  refine ⟨fun pins s σ H R I h => ?_⟩
  refine Call_ (ld_blt I hg hm PyProof.Rows.boot_zip (PyProof.Rows.callWith_type1 (thn (ha.run pos pins s σ H _ I h) fun us s1 ⟨vs, H1, I1, r1, q1⟩ => ?_) hs hpl))
  obtain ⟨x, b, ys, ex, hqy, q⟩ := q1
  subst ex
  cases r1 with
  | cons r rr =>
    cases rr with
    | cons r' rr =>
      cases rr
      obtain ⟨t, rfl⟩ := r
      cases r'
      obtain ⟨its2, rv2, p2, _⟩ := I1.tuple hqy
      have lb : b < s1.heap.objs.size := by obtain ⟨o, ho, _⟩ := id p2; exact Heap.lt_size ho
      refine zip_begins2 (begins_text x t) (begins_tuple b its2.toArray) trivial p2 fun h' hz hTI hTO h1 h2 hsz hk => wpAny_pyIter_zip hz ?_
      have I2 : Inv X pins σ H1 { s1 with heap := h' } := I1.kept (t' := s1.toks) hk
      refine ⟨s1.heap.objs.size + 4, [s1.heap.objs.size + 4, s1.heap.objs.size + 2, s1.heap.objs.size + 3, s1.heap.objs.size, s1.heap.objs.size + 1], _, _, H1, rfl, I2,
        turn_zipF (fed_text _ x t) (fed_tup _ b (Nat.ne_of_lt (Nat.lt_succ_of_lt lb))) (zip_sep2 (fp1 := []) (fp2 := [b]) (by simp) (by intro c hc; rw [List.mem_singleton.mp hc]; exact lb)), ⟨hz, hTI, ⟨_, _, hTO⟩, ⟨_, h1, rfl, rfl⟩, ⟨_, h2, rfl, rfl⟩⟩, fun c hcm => ?_, q⟩
      have e' : c = s1.heap.objs.size + 4 ∨ c = s1.heap.objs.size + 2 ∨ c = s1.heap.objs.size + 3 ∨ c = s1.heap.objs.size ∨ c = s1.heap.objs.size + 1 := by simpa using hcm
      have hle : s1.heap.objs.size ≤ c := by
        rcases e' with z | z | z | z | z
        · rw [z]; exact Nat.le_add_right _ _
        · rw [z]; exact Nat.le_add_right _ _
        · rw [z]; exact Nat.le_add_right _ _
        · rw [z]; exact Nat.le_refl _
        · rw [z]; exact Nat.le_add_right _ _
      exact I1.fpOk hle (I1.hok.fresh hle)
end Rx
set_option Elab.async false
set_option linter.all false
set_option maxRecDepth 100000
set_option maxHeartbeats 4000000
/-! Rx4: loops over enumerate and zip -/
namespace Rx
open PySem PySem.Spec PyProof.Rows L2 Evl Bx
theorem for_enumF {has : Hp → List V → Prop} {xs : List V} {g : TG} {tb : TS} {D : Ends} {σ : L2.St} {H : Hp} (Pv : Nat → L2.St → Hp → Prop) (h0 : Pv 0 σ H) (hq : ∀ i σ H, Pv i σ H → has H xs)
    (hs : ∀ (i : Nat) (x : V) (T : Addr) (σ : L2.St) (H : Hp), xs[i]? = some x → Pv i σ H → H T = none → g (.ref T) σ (upd H T (.tup [.int (i : Nat), x])) fun σ2 H2 => tb { D with nx := Pv (i + 1), ct := Pv (i + 1), bk := D.nx } σ2 H2) (hd : ∀ σ H, Pv xs.length σ H → D.nx σ H) :
    ∃ W : Nat → Nat → L2.St → Hp → Prop, (∃ m, W 0 m σ H) ∧ ∀ i m σ H, W i m σ H →
      ((Itf has).stop i H ∧ D.nx σ H) ∨ ((Itf has).go i H ∧ ∃ N : L2.St → Hp → Prop, (∀ σ' H', N σ' H' → ∃ m', m' < m ∧ W (i + 1) m' σ' H') ∧ ∀ v H', (Itf has).yld i H v H' → g v σ H' fun σ2 H2 => tb { D with nx := N, ct := N, bk := D.nx } σ2 H2) := by
  refine ⟨fun i m σ H => m = xs.length - i ∧ i ≤ xs.length ∧ Pv i σ H, ⟨xs.length, rfl, Nat.zero_le _, h0⟩, ?_⟩
  rintro i m σ H ⟨rfl, hi, p⟩
  have qx := hq i σ H p
  by_cases hlt : i < xs.length
  · have hx : xs[i]? = some xs[i] := List.getElem?_eq_getElem hlt
    refine .inr ⟨⟨xs, _, qx, hx⟩, Pv (i + 1), fun σ' H' p' => ⟨xs.length - (i + 1), by omega, rfl, hlt, p'⟩, fun v H' y => ?_⟩
    obtain ⟨T, x', rfl, hT, rfl, f1⟩ := y
    exact hs i x' T σ H (f1 xs qx) p hT
  · have e : i = xs.length := by omega
    subst e
    exact .inl ⟨⟨xs, qx, rfl⟩, hd σ H p⟩
theorem for_zipF {has1 has2 : Hp → List V → Prop} {xs ys : List V} {g : TG} {tb : TS} {D : Ends} {σ : L2.St} {H : Hp} (hl : xs.length = ys.length) (Pv : Nat → L2.St → Hp → Prop) (h0 : Pv 0 σ H) (hq : ∀ i σ H, Pv i σ H → has1 H xs ∧ has2 H ys)
    (hs : ∀ (i : Nat) (x y : V) (T : Addr) (σ : L2.St) (H : Hp), xs[i]? = some x → ys[i]? = some y → Pv i σ H → H T = none → g (.ref T) σ (upd H T (.tup [x, y])) fun σ2 H2 => tb { D with nx := Pv (i + 1), ct := Pv (i + 1), bk := D.nx } σ2 H2) (hd : ∀ σ H, Pv xs.length σ H → D.nx σ H) :
    ∃ W : Nat → Nat → L2.St → Hp → Prop, (∃ m, W 0 m σ H) ∧ ∀ i m σ H, W i m σ H →
      ((Itzf has1 has2).stop i H ∧ D.nx σ H) ∨ ((Itzf has1 has2).go i H ∧ ∃ N : L2.St → Hp → Prop, (∀ σ' H', N σ' H' → ∃ m', m' < m ∧ W (i + 1) m' σ' H') ∧ ∀ v H', (Itzf has1 has2).yld i H v H' → g v σ H' fun σ2 H2 => tb { D with nx := N, ct := N, bk := D.nx } σ2 H2) := by
  refine ⟨fun i m σ H => m = xs.length - i ∧ i ≤ xs.length ∧ Pv i σ H, ⟨xs.length, rfl, Nat.zero_le _, h0⟩, ?_⟩
  rintro i m σ H ⟨rfl, hi, p⟩
  obtain ⟨qx, qy⟩ := hq i σ H p
  by_cases hlt : i < xs.length
  · have hx : xs[i]? = some xs[i] := List.getElem?_eq_getElem hlt
    have hlt2 : i < ys.length := by omega
    have hy : ys[i]? = some ys[i] := List.getElem?_eq_getElem hlt2
    refine .inr ⟨⟨xs, ys, _, _, qx, qy, hx, hy⟩, Pv (i + 1), fun σ' H' p' => ⟨xs.length - (i + 1), by omega, rfl, hlt, p'⟩, fun v H' y => ?_⟩
    obtain ⟨T, x', y', rfl, hT, rfl, f1, f2⟩ := y
    exact hs i x' y' T σ H (f1 xs qx) (f2 ys qy) p hT
  · have e : i = xs.length := by omega
    subst e
    exact .inl ⟨⟨xs, ys, qx, qy, Nat.le_refl _, by omega, .inl rfl⟩, hd σ H p⟩
/-- for i, c in enumerate(a text): the pair's two names in the slots j and k -/
theorem forEnumS {K : PySem.W.Frag} {σ : L2.St} {H : Hp} {D : Ends} {tu : TS} {ta : TA} {j k : Nat} {l : List Nat} (h : EvA ta σ H [tx l]) (Pv : Nat → L2.St → Hp → Prop) (h0 : ∀ H1, Ex H H1 → Pv 0 σ H1)
    (hm : ∀ i σ' H' H2, Ex H' H2 → Pv i σ' H' → Pv i σ' H2)
    (hs : ∀ i c σ' H', l[i]? = some c → Pv i σ' H' → tu { D with nx := Pv (i + 1), ct := Pv (i + 1), bk := D.nx } ((σ'.set j (some (.int (i : Nat)))).set k (some (tx [c]))) H')
    (hd : ∀ σ' H', Pv l.length σ' H' → D.nx σ' H') : tFor (iEnumS ta) (gTup K 2 (gCons (gName j) (gCons (gName k) gNil))) tu D σ H :=
  h H (Ex.refl H) _ fun H1 e => ⟨mk l, rfl, by
    have hl : (l.map fun c => tx [c]) = (Sx.sgs (mk l)).map V.str := by rw [sgs_mk, List.map_map] <;> rfl
    have hz : ((Sx.sgs (mk l)).map V.str).length = l.length := by rw [← hl, List.length_map]
    refine for_enumF (xs := (Sx.sgs (mk l)).map V.str) Pv (h0 H1 e) (fun _ _ _ _ => rfl) (fun i x T σ' H' hx p hT => ?_) (fun σ' H' p => hd σ' H' (by rw [hz] at p; exact p))
    rw [← hl, List.getElem?_map] at hx
    cases hc : l[i]? with
    | none => rw [hc] at hx; cases hx
    | some c =>
      rw [hc] at hx
      obtain rfl : tx [c] = x := Option.some.inj hx
      exact ⟨T, _, rfl, .inl (.inl upd_same), rfl, _, _, rfl, _, _, rfl, rfl, hs i c σ' _ hc (hm i σ' H' _ (Ex.new hT) p)⟩⟩
/-- for i, q in enumerate(a tuple of numbers) -/
theorem forEnumT {K : PySem.W.Frag} {σ : L2.St} {H : Hp} {D : Ends} {tu : TS} {ta : TA} {j k : Nat} {a : Addr} {l : List Nat} (h : EvA ta σ H [.ref a]) (ht : H a = some (.tup (l.map fun q => V.int (q : Nat)))) (Pv : Nat → L2.St → Hp → Prop) (h0 : ∀ H1, Ex H H1 → Pv 0 σ H1)
    (hq : ∀ i σ' H', Pv i σ' H' → Ex H H') (hm : ∀ i σ' H' H2, Ex H' H2 → Pv i σ' H' → Pv i σ' H2)
    (hs : ∀ i q σ' H', l[i]? = some q → Pv i σ' H' → tu { D with nx := Pv (i + 1), ct := Pv (i + 1), bk := D.nx } ((σ'.set j (some (.int (i : Nat)))).set k (some (.int (q : Nat)))) H')
    (hd : ∀ σ' H', Pv l.length σ' H' → D.nx σ' H') : tFor (iEnumT K ta) (gTup K 2 (gCons (gName j) (gCons (gName k) gNil))) tu D σ H :=
  h H (Ex.refl H) _ fun H1 e => ⟨a, _, rfl, .inl (.inl (e _ _ ht)), by
    refine for_enumF (xs := l.map fun q => V.int (q : Nat)) Pv (h0 H1 e) (fun i σ' H' p => .inl (.inl (hq i σ' H' p _ _ ht))) (fun i x T σ' H' hx p hT => ?_) (fun σ' H' p => hd σ' H' (by rw [List.length_map] at p; exact p))
    rw [List.getElem?_map] at hx
    cases hc : l[i]? with
    | none => rw [hc] at hx; cases hx
    | some c =>
      rw [hc] at hx
      obtain rfl : V.int (c : Nat) = x := Option.some.inj hx
      exact ⟨T, _, rfl, .inl (.inl upd_same), rfl, _, _, rfl, _, _, rfl, rfl, hs i c σ' _ hc (hm i σ' H' _ (Ex.new hT) p)⟩⟩
/-- for c, q in zip(a text, a tuple of numbers) -/
theorem forZipST {K : PySem.W.Frag} {σ : L2.St} {H : Hp} {D : Ends} {tu : TS} {ta : TA} {j k : Nat} {a : Addr} {u l : List Nat} (h : EvA ta σ H [tx u, .ref a]) (ht : H a = some (.tup (l.map fun q => V.int (q : Nat)))) (hl : u.length = l.length) (Pv : Nat → L2.St → Hp → Prop) (h0 : ∀ H1, Ex H H1 → Pv 0 σ H1)
    (hq : ∀ i σ' H', Pv i σ' H' → Ex H H') (hm : ∀ i σ' H' H2, Ex H' H2 → Pv i σ' H' → Pv i σ' H2)
    (hs : ∀ i c q σ' H', u[i]? = some c → l[i]? = some q → Pv i σ' H' → tu { D with nx := Pv (i + 1), ct := Pv (i + 1), bk := D.nx } ((σ'.set j (some (tx [c]))).set k (some (.int (q : Nat)))) H')
    (hd : ∀ σ' H', Pv u.length σ' H' → D.nx σ' H') : tFor (iZipST K ta) (gTup K 2 (gCons (gName j) (gCons (gName k) gNil))) tu D σ H :=
  h H (Ex.refl H) _ fun H1 e => ⟨mk u, a, _, rfl, .inl (.inl (e _ _ ht)), by
    have hu : (u.map fun c => tx [c]) = (Sx.sgs (mk u)).map V.str := by rw [sgs_mk, List.map_map] <;> rfl
    have hz : ((Sx.sgs (mk u)).map V.str).length = u.length := by rw [← hu, List.length_map]
    refine for_zipF (xs := (Sx.sgs (mk u)).map V.str) (ys := l.map fun q => V.int (q : Nat)) (by rw [hz, List.length_map, hl]) Pv (h0 H1 e) (fun i σ' H' p => ⟨rfl, .inl (.inl (hq i σ' H' p _ _ ht))⟩) (fun i x y T σ' H' hx hy p hT => ?_) (fun σ' H' p => hd σ' H' (by rw [hz] at p; exact p))
    rw [← hu, List.getElem?_map] at hx
    rw [List.getElem?_map] at hy
    cases hc : u[i]? with
    | none => rw [hc] at hx; cases hx
    | some c =>
      cases hd : l[i]? with
      | none => rw [hd] at hy; cases hy
      | some q =>
        rw [hc] at hx
        rw [hd] at hy
        obtain rfl : tx [c] = x := Option.some.inj hx
        obtain rfl : V.int (q : Nat) = y := Option.some.inj hy
        exact ⟨T, _, rfl, .inl (.inl upd_same), rfl, _, _, rfl, _, _, rfl, rfl, hs i c q σ' _ hc hd (hm i σ' H' _ (Ex.new hT) p)⟩⟩
theorem ne_same {x y : V} (h : x = y) : V.bl (!decide (x = y)) = V.bl false := by rw [decide_eq_true h]; rfl
theorem eq_same {x y : V} (h : x = y) : V.bl (decide (x = y)) = V.bl true := by rw [decide_eq_true h]
end Rx
set_option Elab.async false
set_option linter.all false
set_option maxRecDepth 100000
set_option maxHeartbeats 4000000
/-! Rx5: sorted of a list of tuples of ints that ascends -/
namespace PySem.W
open PySem PySem.Calls PyProof.Rows
/-- one empty tuple can be sorted -/
theorem SortsAt.lone {prog : Program} {w : World} {A : Around} {s : Shared} {v : Value} (e : ∃ as, Reads s.heap v (.tuple []) as) (hu : A.units + 2 < cLine) : SortsAt prog w A s (dataKind s.heap [.tuple []]) [v] := by
  have hal : AllAlike [PyData.tuple []] := by
    intro d hd d' hd'
    rw [List.mem_singleton.mp hd, List.mem_singleton.mp hd']
    simp [alike, alikeAll]
  refine ⟨fun x hx => ?_, tuples' true, ?_, fun h2 => absurd h2 (by simp)⟩
  · obtain ⟨as, r⟩ := e
    rw [List.mem_singleton.mp hx]
    exact ⟨_, dataKind_some hal (List.mem_singleton.mpr rfl) r⟩
  · intro E x y a b Q ha hb hq
    obtain ⟨d, as, hd, ra, rfl⟩ := dataKind_inv ha
    obtain ⟨d', as', hd', rb, rfl⟩ := dataKind_inv hb
    have hdd := hal d hd d' hd'
    have e1 := List.mem_singleton.mp hd
    have e2 := List.mem_singleton.mp hd'
    subst e1 e2
    have hq' : Q (dataLt (.tuple []) (.tuple [])) s := hq
    rw [dataLt_tuple] at hq'
    cases ra with
    | @tuple l o xs n _ _ h1 h2 h3 h4 =>
      cases rb with
      | @tuple l' o' xs' n' _ _ k1 k2 k3 k4 =>
        have n1 : xs.size = ([] : List PyData).length := by simpa using SeqAt.ReadsAll.length _ _ _ h4
        have n2 : xs'.size = ([] : List PyData).length := by simpa using SeqAt.ReadsAll.length _ _ _ k4
        refine kat_lt h1 h3 k1 k3 (katLex_alike [] [] 0 _ _ _ _ h4 k4 (by simp [alikeAll]) (by
          have z : PyData.depthAll [] = 0 := by simp [PyData.depthAll]
          rw [z]
          omega) (fun hb _ x r t ex => nomatch ex) (by rw [n1, n2]) hq')
end PySem.W
namespace Rx
open PySem PySem.Spec PyProof.Rows L2
section
variable {X : Cx}
def encT (p : Addr × List Int) : PyData := .tuple (p.2.map .int)
theorem dataLt_ints : ∀ (ns ms : List Int), PyProof.Rows.lexLt itemOrd (PySem.W.keyToksAll (ns.map .int)) (PySem.W.keyToksAll (ms.map .int)) = HT.lexLt ns ms
  | [], [] => PyProof.Rows.lex_irrefl _
  | [], m :: ms => by
    show PyProof.Rows.lexLt itemOrd (PySem.W.keyToksAll []) (PySem.W.keyToksAll (PyData.int m :: ms.map .int)) = true
    simp only [PySem.W.keyToksAll]
    rw [PyProof.Rows.lex_cons]
    rfl
  | n :: ns, [] => by
    show PyProof.Rows.lexLt itemOrd (PySem.W.keyToksAll (PyData.int n :: ns.map .int)) (PySem.W.keyToksAll []) = false
    simp only [PySem.W.keyToksAll]
    rw [PyProof.Rows.lex_cons]
    rfl
  | n :: ns, m :: ms => by
    show PyProof.Rows.lexLt itemOrd (PySem.W.keyToksAll (PyData.int n :: ns.map .int)) (PySem.W.keyToksAll (PyData.int m :: ms.map .int)) = _
    rw [PySem.W.dataLt_cons (by simp [PySem.W.alike]), dataLt_ints ns ms, HT.lexLt_cons, PySem.W.dataLt_int]
    simp only [PyData.eqv, beq_iff_eq]
theorem le_of (p q : Addr × List Int) : PySem.W.dataLe false encT p q = !HT.lexLt q.2 p.2 := by
  show (!PySem.W.dataLt (.tuple (q.2.map .int)) (.tuple (p.2.map .int))) = _
  rw [PySem.W.dataLt_tuple, dataLt_ints]
/-- sorted(xs), xs a list of tuples of ints that ascends: a new list, the same -/
def rSortAsc (K : PySem.W.Frag) : List V → Hp → VK → Prop := fun vs H Q => ∃ (a : Addr) (L : List (Addr × List Int)), vs = [V.ref a] ∧ SqL K H a (L.map fun p => V.ref p.1) ∧ (∀ p ∈ L, SqT K H p.1 (p.2.map V.int)) ∧ L.Pairwise (fun p q => HT.lexLt q.2 p.2 = false) ∧
  ((∀ p ∈ L, p.2 ≠ []) ∨ ∃ t, L = [(t, [])]) ∧ ∀ p, H p = none → Q (.ref p) (upd H p (.lst (L.map fun p => V.ref p.1)))
theorem reads_ints {h : Heap} : ∀ {ns : List Int} {us : List Value}, Vals (ns.map V.int) us → ∃ as, ReadsAll h us (ns.map .int) as
  | [], _, r => by
    cases r
    exact ⟨[], .nil⟩
  | n :: ns, _, r => by
    cases r with
    | cons r1 r2 =>
      obtain ⟨t, rfl⟩ := r1
      obtain ⟨as, h⟩ := reads_ints (h := h) r2
      exact ⟨[] ++ as, .cons (.int _ _) h⟩
theorem each_refs : ∀ {L : List (Addr × List Int)} {us : List Value} {Rl : Value → Addr × List Int → Prop}, Vals (L.map fun p => V.ref p.1) us → (∀ p ∈ L, Rl (.ref p.1) p) → PySem.W.EachIs Rl us L
  | [], _, _, r, _ => by
    cases r
    exact .nil
  | p :: L, _, _, r, h => by
    cases r with
    | cons r1 r2 =>
      cases r1
      exact .cons (h p List.mem_cons_self) (each_refs r2 fun q hq => h q (List.mem_cons_of_mem _ hq))
theorem each_back : ∀ {L : List (Addr × List Int)} {us : List Value}, PySem.W.EachIs (fun v p => v = Value.ref p.1) us L → Vals (L.map fun p => V.ref p.1) us
  | _, _, .nil => .nil
  | _, _, .cons h t => .cons (by rw [h]; rfl) (each_back t)
theorem depth_le1 (ns : List Int) : (PyData.tuple (ns.map .int)).depth ≤ 1 := by
  show PyData.depthAll (ns.map .int) + 1 ≤ 1
  rw [PySem.W.depth_ints]
  exact Nat.le_refl 1
theorem cr_sortAsc (hu : X.A.units + 64 < cLine) : CallR X (.builtin "sorted") (rSortAsc X.K) := by
  intro pins s σ H vs us Q I r h
  obtain ⟨a, L, rfl, hs, ht, hp, hk, q⟩ := h
  obtain ⟨its, rv, hl, hz⟩ := I.list hs
  obtain ⟨u, rfl, ru⟩ := vals1 r
  obtain rfl : u = Value.ref a := ru
  have hz' : L.length ≤ sizeLine := by rw [List.length_map] at hz; exact hz
  have e : PySem.W.EachIs (fun v (p : Addr × List Int) => v = Value.ref p.1) its L := each_refs rv fun p _ => rfl
  have er : PySem.W.EachIs (fun v p => ∃ as, Reads s.heap v (encT p) as) its L := each_refs rv fun p hm => by
    obtain ⟨jts, rj, tj, _⟩ := I.tuple (ht p hm)
    obtain ⟨as, ra⟩ := reads_ints (h := s.heap) rj
    obtain ⟨o, ho, hc, n, hd⟩ := tj
    exact ⟨as, .tuple ho hc hd (by simpa using ra)⟩
  have hal : PySem.W.AllAlike (L.map encT) := PySem.W.AllAlike.of fun p p' => by
    show PySem.W.alike (.tuple (p.2.map .int)) (.tuple (p'.2.map .int)) = true
    rw [PySem.W.alike]
    exact PySem.W.alike_ints _ _
  have ms : L.mergeSort (PySem.W.dataLe false encT) = L := List.mergeSort_of_pairwise (hp.imp fun {p p'} hq => by
    rw [le_of, hq]
    rfl)
  have fin : ∀ out : List Value, PySem.W.EachIs (fun v (p : Addr × List Int) => v = Value.ref p.1) out L → EP X pins σ Q (.ref (s.heap.objs.size + 1)) { s with heap := PyProof.Rows.sortedAll s.heap its out.toArray } := by
    intro out eo
    obtain ⟨ep, he'⟩ := PyProof.Rows.sortedAll_at s.heap its out.toArray
    refine ⟨.ref _, upd H (s.heap.objs.size + 1) (.lst (L.map fun p => V.ref p.1)), I.laid (t' := s.toks) (fun _ _ => PyProof.Rows.sortedAll_old) (Nat.le_succ _) ⟨hz, out, ep, each_back eo, by simpa using he'⟩, rfl, q _ (I.hok.fresh (Nat.le_succ _))⟩
  rcases hk with hk | ⟨t, rfl⟩
  · refine PySem.W.sorted_data (R := fun v (p : Addr × List Int) => v = Value.ref p.1) (bs := L) (enc := encT) hl.isList e er hal (.inl fun d hd => ?_) hz' (fun p _ => ?_) fun out _ eo => fin out (by rw [ms] at eo; exact eo)
    · obtain ⟨p, hm, rfl⟩ := List.mem_map.mp hd
      have := hk p hm
      cases hp2 : p.2 with
      | nil => exact absurd hp2 this
      | cons x xs => exact ⟨.int x, xs.map .int, by show PyData.tuple (p.2.map .int) = _; rw [hp2]; rfl⟩
    · have := depth_le1 p.2
      show X.A.units + 2 + (PyData.tuple (p.2.map .int)).depth < cLine
      omega
  · have hs1 : its = [Value.ref t] := by
      cases e with
      | cons h1 h2 =>
        cases h2
        rw [h1]
    subst hs1
    have er' : ∃ as, Reads (PySem.W.sortingHeap (PySem.W.copyHeap s.heap [Value.ref t]) (s.heap.objs.size + 1) [Value.ref t]) (Value.ref t) (.tuple []) as := by
      cases er with
      | cons h1 h2 =>
        obtain ⟨as, r1⟩ := h1
        exact ⟨as, PyProof.Rows.Reads.keeps (fun _ _ => PySem.W.sorting_copy_old) r1⟩
    refine PySem.W.sorted_vals hl.isList (PySem.W.SortsAt.lone (s := { s with heap := PySem.W.sortingHeap (PySem.W.copyHeap s.heap [Value.ref t]) (s.heap.objs.size + 1) [Value.ref t] }) er' (by show X.A.units + 1 + 1 + 2 < cLine; omega)) hz' (fin _ ?_)
    have h1 := PySem.W.sortVals_length (κ := PySem.W.dataKind (PySem.W.sortingHeap (PySem.W.copyHeap s.heap [Value.ref t]) (s.heap.objs.size + 1) [Value.ref t]) [PyData.tuple []]) false (ks := [Value.ref t]) (vs := [Value.ref t]) rfl
    have h2 := fun v => PySem.W.sortVals_mem (κ := PySem.W.dataKind (PySem.W.sortingHeap (PySem.W.copyHeap s.heap [Value.ref t]) (s.heap.objs.size + 1) [Value.ref t]) [PyData.tuple []]) false (ks := [Value.ref t]) (vs := [Value.ref t]) (v := v)
    generalize PySem.W.sortVals _ false [Value.ref t] [Value.ref t] = o at h1 h2 ⊢
    match o, h1, h2 with
    | [v], _, h2 =>
      have := List.mem_singleton.mp (h2 v List.mem_cons_self)
      exact .cons this .nil
end
end Rx
set_option Elab.async false
set_option linter.all false
set_option maxRecDepth 100000
set_option maxHeartbeats 4000000
/-! Rx7: sorted of any list of data; sorted(list of texts, key=len) -/
namespace Rx
open PySem PySem.Spec PyProof.Rows L2 Bx
theorem each_vals {β : Type} (v : β → V) : ∀ {bs : List β} {us : List Value}, Vals (bs.map v) us → PySem.W.EachIs (fun u b => L2.RelV (v b) u) us bs
  | [], _, r => by
    cases r
    exact .nil
  | b :: bs, _, r => by
    cases r with
    | cons r1 r2 => exact .cons r1 (each_vals v r2)
theorem vals_each {β : Type} (v : β → V) : ∀ {bs : List β} {us : List Value}, PySem.W.EachIs (fun u b => L2.RelV (v b) u) us bs → Vals (bs.map v) us
  | _, _, .nil => .nil
  | _, _, .cons h t => .cons h (vals_each v t)
/-- sorted(xs), xs any list of data that are alike -/
def rSortD (K : PySem.W.Frag) : List V → Hp → VK → Prop := fun vs H Q => ∃ (a : Addr) (β : Type) (bs : List β) (v : β → V) (enc : β → PyData), vs = [V.ref a] ∧ SqL K H a (bs.map v) ∧ (∀ b ∈ bs, Dp K H (v b) (enc b)) ∧ PySem.W.AllAlike (bs.map enc) ∧ PySem.W.Sortable (bs.map enc) ∧
  (∀ b ∈ bs, (enc b).depth ≤ 8) ∧ ∀ p, H p = none → Q (.ref p) (upd H p (.lst ((bs.mergeSort (PySem.W.dataLe false enc)).map v)))
section
variable {X : Cx}
theorem cr_sortD (hu : X.A.units + 64 < cLine) : CallR X (.builtin "sorted") (rSortD X.K) := by
  intro pins s σ H vs us Q I r h
  obtain ⟨a, β, bs, v, enc, rfl, hs, hd, hal, hk, hdp, q⟩ := h
  obtain ⟨its, rv, hl, hz⟩ := I.list hs
  obtain ⟨u, rfl, ru⟩ := vals1 r
  obtain rfl : u = Value.ref a := ru
  have hz' : bs.length ≤ sizeLine := by rw [List.length_map] at hz; exact hz
  have e := each_vals v rv
  have er : PySem.W.EachIs (fun u b => ∃ as, Reads s.heap u (enc b) as) its bs := by
    have : ∀ {cs : List β} {us : List Value}, (∀ b ∈ cs, b ∈ bs) → PySem.W.EachIs (fun u b => L2.RelV (v b) u) us cs → PySem.W.EachIs (fun u b => ∃ as, Reads s.heap u (enc b) as) us cs := by
      intro cs us hc h
      induction h with
      | nil => exact .nil
      | cons h1 h2 ih => exact .cons (Dp.reads I _ _ _ (hd _ (hc _ List.mem_cons_self)) h1) (ih fun b hb => hc b (List.mem_cons_of_mem _ hb))
    exact this (fun _ h => h) e
  refine PySem.W.sorted_data (R := fun u b => L2.RelV (v b) u) (bs := bs) (enc := enc) hl.isList e er hal hk hz' (fun b hb => ?_) fun out _ eo => ?_
  · have := hdp b hb
    omega
  · obtain ⟨ep, he'⟩ := PyProof.Rows.sortedAll_at s.heap its out.toArray
    have len : (bs.mergeSort (PySem.W.dataLe false enc)).length = bs.length := List.length_mergeSort _
    exact ⟨.ref _, upd H (s.heap.objs.size + 1) (.lst ((bs.mergeSort (PySem.W.dataLe false enc)).map v)), I.laid (t' := s.toks) (fun _ _ => PyProof.Rows.sortedAll_old) (Nat.le_succ _) ⟨by rw [List.length_map, len]; exact hz', out, ep, vals_each v eo, by simpa using he'⟩, rfl, q _ (I.hok.fresh (Nat.le_succ _))⟩
/-- sorted(e, key = len) -/
def tSortLen (K : PySem.W.Frag) (t : TA) : TE := fun σ H Q => t σ H fun xs H1 => ∃ (a : Addr) (ts : List (List Nat)), xs = [.ref a] ∧ SqL K H1 a (ts.map tx) ∧ (∀ t ∈ ts, t.length ≤ 100000) ∧
  ∀ p, H1 p = none → Q (.ref p) (upd H1 p (.lst ((ts.mergeSort (fun a b => decide (a.length ≤ b.length))).map tx)))
theorem pe_sortLen {e : Expr} {t : TA} {p p2 kp pos : Pos} (hu : X.A.units + 64 < cLine) (hg : Gl X "sorted") (hm : X.mg "sorted" = none) (hg2 : Gl X "len") (hm2 : X.mg "len" = none) (ha : PA X [e] t)
    (he : backTo pos (starEach [e] X.env) = (false, eval e X.env) :: backTo pos (starEach [] X.env) := by rfl) (hpl : (backTo pos (starEach [e] X.env)).any (·.1) = false := by rfl) :
    PE X (.Call (.Name "sorted" p) [e] [⟨some "key", .Name "len" p2, kp⟩] pos) (tSortLen X.K t) := by
  refine ⟨fun pins s σ H Q I h => ?_⟩
  refine wpAny_Call_Name_kw (ld_blt I hg hm (u := .builtin "sorted") (by decide +kernel) ?_)
  refine PyProof.Rows.callWith_kw (thn (ha.run pos pins s σ H _ I h) fun us s1 ⟨vs, H1, I1, r1, q1⟩ => ?_) he hpl
  obtain ⟨a, ts, rfl, hs, hb, q⟩ := q1
  obtain ⟨u, rfl, ru⟩ := vals1 r1
  obtain rfl : u = Value.ref a := ru
  show wpAny _ _ (evalAll ((do let v ← eval (.Name "len" p2) X.env; standAt pos; pure v) :: [])) _ _ s1
  refine wpAny_evalAll_cons (wpAny_bind (ld_blt I1 hg2 hm2 (u := .builtin "len") (by decide +kernel) (wpAny_bind (wpAny_standAt (wpAny_pure ?_)))))
  refine wpAny_evalAll_nil ?_
  obtain ⟨its, rv, hl, hz⟩ := I1.list hs
  have hz' : ts.length ≤ sizeLine := by rw [List.length_map] at hz; exact hz
  have e := each_vals tx rv
  show wpAny _ _ (call (.builtin "sorted") [.ref a] [(Str.ofString "key", .builtin "len")]) _ _ s1
  refine PySem.W.sorted_key_data (b := false) (fun t : List Nat => PyData.int (t.length : Nat)) hl.isList e (PySem.W.AllAlike.of fun _ _ => by simp [PySem.W.alike]) (PySem.W.Sortable.others fun _ => ⟨by simp, by simp⟩) hz' (fun t _ => ?_) (PyProof.Rows.ksk_s1 _ _) (fun _ => PyProof.Rows.ksk_l1 _ _) (fun _ => PyProof.Rows.ksk_t4 _ _)
    (fun v t hR ht h tk kp => ?_) fun out c h' tk kp hn hD hlen eo => ?_
  · show X.A.units + 2 + 0 < cLine
    omega
  · obtain ⟨t', rfl⟩ := (show ∃ t', v = Value.str (mk t) t' from hR)
    have := hb t ht
    refine len_str (by rw [mk_len]; omega) ?_
    exact ⟨h, _, rfl, fun _ _ z => z, by rw [mk_len]; exact .int _ _⟩
  · have ms : (ts.mergeSort (PySem.W.dataLe false fun t : List Nat => PyData.int (t.length : Nat))) = ts.mergeSort (fun a b => decide (a.length ≤ b.length)) := by
      rw [PySem.W.dataLe_int]
      congr 1
      funext a b
      exact decide_eq_decide.mpr (by omega)
    rw [ms] at eo
    have len : (ts.mergeSort (fun a b => decide (a.length ≤ b.length))).length = ts.length := List.length_mergeSort _
    have vo := vals_each tx eo
    exact ⟨.ref _, upd H1 (s1.heap.objs.size + 1) (.lst ((ts.mergeSort (fun a b => decide (a.length ≤ b.length))).map tx)), I1.laid (t' := tk) kp (Nat.le_succ _) ⟨by rw [List.length_map, len]; exact hz', out, c, vo, by simpa using hD⟩, rfl, q _ (I1.hok.fresh (Nat.le_succ _))⟩
end
/-! ### what is sorted -/
theorem alike_strs (ts : List (List Nat)) : PySem.W.AllAlike (ts.map fun t => PyData.str (mk t)) := PySem.W.AllAlike.of fun _ _ => by simp [PySem.W.alike]
theorem sortable_strs (ts : List (List Nat)) : PySem.W.Sortable (ts.map fun t => PyData.str (mk t)) := PySem.W.Sortable.others fun _ => ⟨by simp, by simp⟩
theorem le_strs : PySem.W.dataLe false (fun t : List Nat => PyData.str (mk t)) = fun a b => decide (a ≤ b) := PySem.W.dataLe_str (fun t : List Nat => mk t)
end Rx
set_option Elab.async false
set_option linter.all false
set_option maxRecDepth 100000
set_option maxHeartbeats 4000000
/-! Gx: promises of defs that hold where no repr is under way around the call: what repr of a list or a tuple wants -/
namespace Gx
open PySem PySem.Spec PyProof.Rows L2
structure FnG (P : Program) (w : World) (K : PySem.W.Frag) (mg : Str → Option Value) (base : Heap) (CX : CXT) (k : Nat) (f : Addr) (fd : FuncData) (ps : List Str) (sp : Sp) : Prop where
  len : ∀ vs H Q E, sp vs H Q E → vs.length = ps.length
  go : ∀ (A : Around) (o : List Env) (s : Shared) (H : Hp) (as : Args) (us : List Value) (vs : List V) (Q : VK) (E : XK), A.guards = some [] → Room k A → Env0 P w K mg base A o s H →
    BindsTo s fd as (ps.zip us) → Vals vs us → sp vs H Q E → codeAny (model P w) A (.call (.ref f) as) (CR CX o P w H s Q E) s
section
variable {P : Program} {w : World} {K : PySem.W.Frag} {mg : Str → Option Value} {base : Heap}
theorem FnG.of {CX : CXT} {k : Nat} {f : Addr} {fd : FuncData} {ps : List Str} {sp : Sp} (F : FnOk P w K mg base CX k f fd ps sp) : FnG P w K mg base CX k f fd ps sp :=
  ⟨F.len, fun A o s H as us vs Q E _ hr e hb r h => F.run A o s H as us vs Q E hr e hb r h⟩
theorem okG {x qual : Str} {st : Stmt} {f : Addr} {fd : FuncData} {N ps : List Str} {k : Nat} {sp : Sp} (F : Fun K x qual st f fd) (S : FnScope N ps (defScope st)) (len : ∀ vs H Q E, sp vs H Q E → vs.length = ps.length)
    (body : ∀ (cdv : Value) (A : Around) (o : List Env) (s : Shared) (H : Hp) (vs : List V) (Q : VK) (E : XK), A.guards = some [] → Room k (A.deeper (envOfC qual (defScope st) s.heap.objs.size f cdv)) → sp vs H Q E →
      ∃ t, PSs (cxOf CX0 P w K mg base N qual (defScope st) f cdv A o s H E).nox (defBody st) t ∧ t { nx := fun _ H' => Q .non H', rt := Q } (start N vs) H) : FnG P w K mg base CX0 (k + 1) f fd ps sp := by
  obtain ⟨c1, c2, c3, c4, c5, c6, cdv, c7, c8, rfl, look, isCode⟩ := F.ex
  refine ⟨len, fun A o s H as us vs Q E gA room env bound vals promise => ?_⟩
  have many := len _ _ _ _ promise
  have inK : K.In s.heap := env.mod.kin.keeps fun b u e => (env.bs b u e).1
  have free : s.heap.NoLimit := env.mod.nolimit.keeps fun b u e => (env.bs b u e).1
  have kinds : ∀ y ∈ ps.zip us, (defScope st).names.lookup y.1 = some .local ∨ ((defScope st).names.lookup y.1 = some .cell ∧ ((cellsFrom (s.heap.objs.size + 1) (defScope st).names []).lookup y.1).isSome = true) := by
    rintro ⟨n, v⟩ hy
    exact (S.par n (List.of_mem_zip hy).1).imp id fun q => ⟨q, PySem.W.cellsFrom_some _ _ _ (.inl q)⟩
  apply codeAny_call_function room.depth (inK _ _ look) rfl S.co S.gen rfl (PySem.W.codeRec_of inK isCode)
  apply bound
  refine wpAny_newFunctionEnv_cells S.kind kinds fun en isEn s1 made => ?_
  subst isEn
  refine ⟨free.keeps made.toInCall.keep, codeAny_func ?_⟩
  obtain ⟨t, isT, reads⟩ := body cdv A o s H vs Q E gA (room.deeper _) promise
  have I := inv_start (CX := CX0) (P := P) (w := w) (K := K) (mg := mg) (base := base) (E := E) S room.hd env many vals made
  have done : ∀ {σ' : L2.St} {H' : Hp} {v : V} {u : Value} {s' : Shared}, Inv (cxOf CX0 P w K mg base N qual (defScope st) f cdv A o s H E) [] σ' H' s' → RelV v u → Q v H' → CE o P w H s Q u s' := fun J r q => ⟨_, _, J.os, J.bare, J.base, J.hok, r, q⟩
  refine wpAny_mono (isT.nox.run [] s1 (start N vs) H _ I reads) (fun flow s' ends => ?_) fun _ _ h => h
  match flow, ends with
  | .ret u, ⟨_, _, _, J, r, q⟩ => exact done J r q
  | .next, ⟨_, _, J, q⟩ => exact done (v := V.non) (u := Value.none) J rfl q
  | .brk, ⟨_, _, _, q⟩ => exact q.elim
  | .cont, ⟨_, _, _, q⟩ => exact q.elim
end
section
variable {X : Cx} {CX : CXT} {k : Nat} {f : Addr} {fd : FuncData} {ps ks : List Str} {sp : Sp} {dvs : List V} {ds : List Value} {E : XK} {x : Str} {p pos : Pos} {e : Expr} {es : List Expr} {t tk : TA} {kws : List Keyword}
  {g : List Value → List Value → List Value} {gV : List V → List V → List V}
theorem back {pins : List (Addr × Obj)} {σ : L2.St} {H : Hp} {s : Shared} {Q : VK} {as : Args} (hx : Passes CX X E) (I : Inv X pins σ H s)
    (h : codeAny (model X.prog X.w) X.A (.call (.ref f) as) (CR CX X.stack X.prog X.w H s Q E) s) : codeAny (model X.prog X.w) X.A (.call (.ref f) as) (fun r s' => match r with | .ok (.ret u) => EP X pins σ Q u s' | .ok _ => False | .error e => X.xe e s') s := by
  refine codeAny_mono h fun r s' q => ?_
  match r, q with
  | .error e, q => exact hx pins σ H s e s' I q
  | .ok (.ret u), q => exact I.after q
  | .ok .next, q => exact q.elim
  | .ok .brk, q => exact q.elim
  | .ok .cont, q => exact q.elim
theorem pe_callG (F : FnG X.prog X.w X.K X.mg X.base CX k f fd ps sp) (hr : Room k X.A) (hq : X.A.guards = some []) (hg : Gl X x) (hm : X.mg x = some (.ref f)) (hk : PySem.W.keepIn X.K (.ref f) = true) (hb : Binds X.K fd ps ds) (hd : Vals dvs ds) (hx : Passes CX X E)
    (ha : PA X (e :: es) t) (hdb : (x == ("__debug__" : Str)) = false := by decide) (he : starEach (e :: es) X.env = (false, eval e X.env) :: starEach es X.env := by rfl) (hpl : (backTo pos (starEach es X.env)).any (·.1) = false := by rfl) :
    PE X (.Call (.Name x p) (e :: es) [] pos) (tCall sp dvs E t) := ⟨fun pins s σ H Q I h => by
  apply wpAny_Call_Name_kw
  refine ld_glob I hg hm ?_ hdb
  refine PySem.W.callWith_K (h₀ := X.base) I.ok.mod.kin hk (thn (ha.run pos pins s σ H _ I h) fun us s1 r1 => ?_) he hpl
  obtain ⟨vs, H1, I1, rv, q⟩ := r1
  have all := rv.append hd
  refine ⟨I1.kIn, wpAny_call ?_⟩
  refine codeAny_mono (back hx I1 (F.go X.A X.stack s1 H1 ⟨us, []⟩ (us ++ ds) (vs ++ dvs) Q E hq hr I1.env0 (hb s1 us I1.kIn ?_) all q)) fun r s' z => ?_
  · rw [← all.length]
    exact F.len _ _ _ _ q
  · match r, z with
    | .error e, z => exact z
    | .ok (.ret u), z => exact z⟩
theorem run_keys {pins : List (Addr × Obj)} {σ : L2.St} {H : Hp} {s : Shared} {Q : VK} {us ws : List Value} {vs zs : List V} (F : FnG X.prog X.w X.K X.mg X.base CX k f fd ps sp) (hr : Room k X.A) (hq : X.A.guards = some []) (hb : KBinds X.K fd ps ks g gV) (hx : Passes CX X E)
    (I : L2.Inv X pins σ H s) (r : Vals vs us) (rz : Vals zs ws) (h : sp (gV vs zs) H Q E) : wpAny (model X.prog X.w) X.A (call (.ref f) us (ks.zip ws)) (EP X pins σ Q) X.xe s := by
  have all := hb.rel r rz
  refine wpAny_call (codeAny_mono (back hx I (F.go X.A X.stack s H ⟨us, ks.zip ws⟩ (g us ws) (gV vs zs) Q E hq hr I.env0 (hb.to s us ws I.kIn ?_) all h)) fun r s' z => ?_)
  · rw [← all.length]
    exact F.len _ _ _ _ h
  · match r, z with
    | .error e, z => exact z
    | .ok (.ret u), z => exact z
theorem pe_callKG (F : FnG X.prog X.w X.K X.mg X.base CX k f fd ps sp) (hr : Room k X.A) (hq : X.A.guards = some []) (hg : Gl X x) (hm : X.mg x = some (.ref f)) (hk : PySem.W.keepIn X.K (.ref f) = true) (hb : KBinds X.K fd ps ks g gV) (hx : Passes CX X E)
    (ha : PA X (e :: es) t) (hkw : PK X kws tk) (hall : (backToKw pos (keywordEach kws X.env)).all (·.1.isSome) = true := by rfl) (hks : (backToKw pos (keywordEach kws X.env)).filterMap (·.1) = ks := by rfl)
    (hdb : (x == ("__debug__" : Str)) = false := by decide) (he : starEach (e :: es) X.env = (false, eval e X.env) :: starEach es X.env := by rfl)
    (hpl : ((backTo pos (starEach (e :: es) X.env)).any (·.1) || (backToKw pos (keywordEach kws X.env)).any (·.1.isNone)) = false := by rfl) :
    PE X (.Call (.Name x p) (e :: es) kws pos) (tCallK sp gV E t tk) := ⟨fun pins s σ H Q I h => by
  apply wpAny_Call_Name_kw
  refine ld_glob I hg hm ?_ hdb
  refine PySem.W.callWith_KW (h₀ := X.base) I.ok.mod.kin hk hall (thn (ha.run pos pins s σ H _ I h) fun us s1 r1 => ?_) hpl he
  obtain ⟨vs, H1, I1, rv, q⟩ := r1
  refine thn (hkw.run pos pins s1 σ H1 _ I1 q) fun ws s2 r2 => ?_
  obtain ⟨zs, H2, I2, rz, q2⟩ := r2
  refine ⟨I2.kIn, ?_⟩
  rw [hks]
  exact run_keys F hr hq hb hx I2 rv rz q2⟩
theorem pe_callK0G (F : FnG X.prog X.w X.K X.mg X.base CX k f fd ps sp) (hr : Room k X.A) (hq : X.A.guards = some []) (hg : Gl X x) (hm : X.mg x = some (.ref f)) (hk : PySem.W.keepIn X.K (.ref f) = true) (hb : KBinds X.K fd ps ks g gV) (hx : Passes CX X E)
    (hkw : PK X kws tk) (hall : (backToKw pos (keywordEach kws X.env)).all (·.1.isSome) = true := by rfl) (hks : (backToKw pos (keywordEach kws X.env)).filterMap (·.1) = ks := by rfl)
    (hdb : (x == ("__debug__" : Str)) = false := by decide)
    (hpl : ((backTo pos (starEach [] X.env)).any (·.1) || (backToKw pos (keywordEach kws X.env)).any (·.1.isNone)) = false := by rfl) :
    PE X (.Call (.Name x p) [] kws pos) (Rx.tCallK0 sp gV E tk) := ⟨fun pins s σ H Q I h => by
  apply wpAny_Call_Name_kw
  refine ld_glob I hg hm ?_ hdb
  refine PySem.W.callWith_KW0 (h₀ := X.base) I.ok.mod.kin hk hall (thn (hkw.run pos pins s σ H _ I h) fun ws s2 r2 => ?_) hpl
  obtain ⟨zs, H2, I2, rz, q2⟩ := r2
  refine ⟨I2.kIn, ?_⟩
  rw [hks]
  exact run_keys (us := []) (vs := []) F hr hq hb hx I2 .nil rz q2⟩
theorem pe_call0G (F : FnG X.prog X.w X.K X.mg X.base CX k f fd ps sp) (hr : Room k X.A) (hq : X.A.guards = some []) (hg : Gl X x) (hm : X.mg x = some (.ref f)) (hk : PySem.W.keepIn X.K (.ref f) = true) (hb : Binds X.K fd ps ds) (hd : Vals dvs ds) (hx : Passes CX X E)
    (hdb : (x == ("__debug__" : Str)) = false := by decide) : PE X (.Call (.Name x p) [] [] pos) (tCall sp dvs E tNil) := ⟨fun pins s σ H Q I h => by
  apply wpAny_Call_Name_kw
  refine ld_glob I hg hm ?_ hdb
  refine PySem.W.callWith_K0 I.kIn hk (wpAny_call ?_)
  have h' : sp ([] ++ dvs) H Q E := h
  refine codeAny_mono (back hx I (F.go X.A X.stack s H ⟨[], []⟩ ([] ++ ds) ([] ++ dvs) Q E hq hr I.env0 (hb s [] I.kIn ?_) hd h')) fun r s' z => ?_
  · rw [← (show Vals ([] ++ dvs) ([] ++ ds) from hd).length]
    exact F.len _ _ _ _ h'
  · match r, z with
    | .error e, z => exact z
    | .ok (.ret u), z => exact z⟩
/-! ### repr -/
mutual
theorem dp_plain {K : PySem.W.Frag} {H : Hp} : ∀ {v : V} {d : PyData}, Dp K H v d → d.hasDict = false
  | _, _, .non => rfl
  | _, _, .bl _ => rfl
  | _, _, .int _ => rfl
  | _, _, .str _ => rfl
  | _, _, .lst _ h => by
    simp only [PyData.hasDict]
    exact dpAll_plain h
  | _, _, .tup _ h => by
    simp only [PyData.hasDict]
    exact dpAll_plain h
theorem dpAll_plain {K : PySem.W.Frag} {H : Hp} : ∀ {vs : List V} {ds : List PyData}, DpAll K H vs ds → PyData.hasDictAll ds = false
  | _, _, .nil => rfl
  | _, _, .cons a b => by
    simp only [PyData.hasDictAll, dp_plain a, dpAll_plain b, Bool.or_self]
end
def rRepr (K : PySem.W.Frag) : List V → Hp → VK → Prop := fun xs H Q => ∃ x d, xs = [x] ∧ Dp K H x d ∧ d.showable = true ∧ d.shown.length ≤ sizeLine ∧ d.depth ≤ 60 ∧ Q (.str d.shown) H
theorem cr_repr (hq : X.A.guards = some []) (hu : X.A.units + 64 < cLine) : CallR X (.builtin "repr") (rRepr X.K) := by
  intro pins s σ H xs us Q I r h
  obtain ⟨x, d, rfl, hd, hs, hz, h6, q⟩ := h
  obtain ⟨u, rfl, rx⟩ := vals1 r
  obtain ⟨as, rd⟩ := Dp.reads I d x u hd rx
  have np := dp_plain hd
  have out : ∀ h' tk tk', (∀ b o, s.heap.get? b = some o → h'.get? b = some o) → EP X pins σ Q (.str d.shown tk) { s with heap := h', toks := tk' } := fun h' tk tk' hk => ⟨.str d.shown, H, I.kept hk, ⟨tk, rfl⟩, q⟩
  have out0 : ∀ tk tk', EP X pins σ Q (.str d.shown tk) { s with toks := tk' } := fun tk tk' => ⟨.str d.shown, H, I.tok _, ⟨tk, rfl⟩, q⟩
  cases hd with
  | non => cases (show u = Value.none from rx); exact PySem.P.repr_of_none (out0 _ _)
  | bl b => cases (show u = Value.bool b from rx); exact PySem.P.repr_of_bool (out0 _ _)
  | int i =>
    obtain ⟨t, rfl⟩ := (show ∃ t, u = Value.int i t from rx)
    exact PySem.P.repr_of_int (of_decide_eq_true (by simpa only [PyData.showable] using hs)) (out0 _ _)
  | str z =>
    obtain ⟨t, rfl⟩ := (show ∃ t, u = Value.str z t from rx)
    exact PySem.P.repr_of_str (out0 _ _) hz
  | lst a b =>
    cases (show u = Value.ref _ from rx)
    exact repr_of_reads' rd hs (fun e => by rw [np] at e; cases e) hq (by omega) (fun _ _ e => e) (fun h' u tk hk => out h' u tk hk) hz
  | tup a b =>
    cases (show u = Value.ref _ from rx)
    exact repr_of_reads' rd hs (fun e => by rw [np] at e; cases e) hq (by omega) (fun _ _ e => e) (fun h' u tk hk => out h' u tk hk) hz
end
end Gx
set_option Elab.async false
set_option linter.all false
set_option maxRecDepth 100000
set_option maxHeartbeats 4000000
/-! Ox: == of two objects of one class by its own __eq__, whichever truth value it tells -/
namespace Ox
open PySem PySem.Spec PyProof.Rows L2
section
variable {X : Cx} {n : Nat}
/-- what an own == tells of two objects -/
def spTold (R : Addr → Addr → Bool → Hp → Prop) : Sp := fun vs H Q _ => ∃ p q t, vs = [.ref p, .ref q] ∧ R p q t H ∧ ∀ H', Ext H H' → Q (.bl t) H'
def rTold (C : Addr) (R : Addr → Addr → Bool → Hp → Prop) : R2 := fun x y H Q =>
  ∃ p q dp dq us ws t, x = .ref p ∧ y = .ref q ∧ H p = some (.ins C dp us) ∧ H q = some (.ins C dq ws) ∧ R p q t H ∧ ∀ H', Ext H H' → Q (.bl t) H'
theorem op_told {CX : CXT} {C f : Addr} {fd : FuncData} {ps : List Str} {R : Addr → Addr → Bool → Hp → Prop} {E : XK}
    (F : FnOk X.prog X.w X.K X.mg X.base CX n f fd ps (spTold R)) (found : PySem.W.findIn X.K (.ref C) "__eq__" = some (some (.ref f)))
    (isfn : PySem.W.isFn X.K (.ref f) = true) (binds : Binds X.K fd ps []) (pass : Passes CX X E) (room : Room n X.A) : OpR X (compareOp .Eq) (rTold C R) := by
  intro pins s σ H x y v u Q I rx ry told
  obtain ⟨p, q, dp, dq, us, ws, t, rfl, rfl, atp, atq, holds, go⟩ := told
  cases rx
  cases ry
  show wpAny (model X.prog X.w) X.A (richCompare .Eq (.ref p) (.ref q)) (EP X pins σ Q) X.xe s
  obtain ⟨_, look1, _⟩ := ins_get I.hok atp
  obtain ⟨_, look2, _⟩ := ins_get I.hok atq
  obtain ⟨_, get1, _⟩ := look1.look
  obtain ⟨_, get2, _⟩ := look2.look
  obtain ⟨_, frame⟩ := I.fr
  refine PySem.W.cmp_K (op := .Eq) (tb := .ref C) room.units0 frame I.ok.mod.kin get1 get2.type (by simp [PySem.W.notFirst]) found isfn ?_
  have promise : spTold R [.ref p, .ref q] H (fun z H' => z = .bl t ∧ Ext H H') E := ⟨p, q, t, rfl, holds, fun H' e => ⟨rfl, e⟩⟩
  have two := F.len _ _ _ _ promise
  have both : Vals [V.ref p, V.ref q] [Value.ref p, Value.ref q] := .cons rfl (.cons rfl .nil)
  have bound := binds s [.ref p, .ref q] I.kIn (by simpa using two)
  simp only [List.append_nil] at bound
  refine wpAny_call (codeAny_mono (F.run X.A X.stack s H ⟨[.ref p, .ref q], []⟩ [.ref p, .ref q] [.ref p, .ref q] _ E room I.env0 bound both promise) fun r s' ends => ?_)
  match r, ends with
  | .error e, ends => exact pass pins σ H s e s' I ends
  | .ok (.ret w), ends =>
    obtain ⟨z, H', J, rz, ez, ex⟩ := I.after ends
    subst ez
    cases rz
    exact ⟨.bl t, H', J, rfl, go H' ex⟩
  | .ok .next, ends => exact ends.elim
  | .ok .brk, ends => exact ends.elim
  | .ok .cont, ends => exact ends.elim
end
end Ox
set_option Elab.async false
set_option linter.all false
set_option maxRecDepth 100000
set_option maxHeartbeats 4000000
/-! Ty1: a tuple is no dict -/
namespace Ty
open PySem PySem.Spec PyProof.Rows L2
open SeqAt MeetsSeq AutoSeq1
theorem dict_declines (b l : Addr) (es : Array DictEntry) (ep : Nat) (items : Array Value) (n2 : Nat) (dd dd2 : Option Addr) (sl sl2 : Array (Option Value)) :
    Meets (Builtin.«dict.__eq__» ⟨[.ref b, .ref l], []⟩) (fun _ R s => s.heap.get? b = some { cls := .type "dict", dict := dd, data := .dict es ep, slots := sl } ∧ s.heap.get? l = some { cls := .type "tuple", dict := dd2, data := .seq items n2, slots := sl2 } ∧ R (.ok (.ret .notImplemented)) s) := by
  refine .of_wp fun prog w A R s h => ?_
  obtain ⟨hb, hl, h⟩ := h
  unfold Builtin.«dict.__eq__»
  refine wpAny_bind (wpAny_of_eq (a := (Value.ref b, Value.ref l)) rfl ?_)
  try dsimp only
  refine wpAny_bind (wpAny_isInstance (T := "tuple") (U := "dict") (b := false) ⟨_, hl, rfl⟩ F.sub_tuple_dict ?_)
  rw [if_pos (show (!false) = true from rfl)]
  exact wpAny_bind (wpAny_rule (wpAny_pure ⟨_, rfl, h⟩))
theorem tuple_declines (l b : Addr) (items : Array Value) (n : Nat) (es : Array DictEntry) (ep : Nat) (dd dd2 : Option Addr) (sl sl2 : Array (Option Value)) :
    Meets (Builtin.«tuple.__eq__» ⟨[.ref l, .ref b], []⟩) (fun _ R s => s.heap.get? l = some { cls := .type "tuple", dict := dd, data := .seq items n, slots := sl } ∧ s.heap.get? b = some { cls := .type "dict", dict := dd2, data := .dict es ep, slots := sl2 } ∧ R (.ok (.ret .notImplemented)) s) :=
  .of_wp fun prog w A R s h => by
    obtain ⟨hp, g, d, tk, os⟩ := s
    obtain ⟨hl, hb, h⟩ := h
    have f1 := F.sub_dict_tuple
    wp_walk using wpAny_loadPart' hl, wpAny_loadPart' hb
    exact ⟨_, rfl, h⟩
section
variable {A : Around} {s : Shared}
theorem tuple_dict {l b : Addr} {items : Array Value} {od : Obj} {es : Array DictEntry} {ep : Nat} (hl : s.heap.IsTuple l items) (hb : s.heap.get? b = some od) (hc : od.cls = .type "dict") (hd : od.data = .dict es ep) (hu : A.units < cLine) : RcAt A s (.ref l) (.ref b) false := by
  obtain ⟨⟨cls, dd, data, sl⟩, ho, hc1, n, hd1⟩ := id hl
  obtain ⟨cls2, dd2, data2, sl2⟩ := od
  simp only at hc hd hc1 hd1
  subst hc hd hc1 hd1
  have hne : l ≠ b := fun e => by
    subst e
    have z := congrArg Obj.cls (Option.some.inj (ho.symm.trans hb))
    exact absurd z (by simp)
  refine fun prog w E Q h => ?_
  exact rc_eq_decline_or (k := false) ⟨_, ho, rfl⟩ ⟨_, hb, rfl⟩ (by decide) F.sub_dict_tuple F.slot_tuple_eq F.slot_dict_eq_refl
    (fun _ hq => call_meets F.slot_tuple_eq ⟨_, ho, rfl⟩ F.entry_tuple_eq (F.args_tuple_eq_2 _ _) (tuple_declines l b items n es ep dd dd2 sl sl2) ⟨ho, hb, hq⟩)
    (fun _ hq => call_meets F.slot_dict_eq_refl ⟨_, hb, rfl⟩ F.entry_dict_eq (F.args_dict_eq_2 _ _) (dict_declines b l es ep items n dd2 dd sl2 sl) ⟨hb, ho, hq⟩)
    (fun _ hq => wpAny_isSame_ref_other' hne ho hb (by simp) hq) (.inr hu) h
end
/-- x == y of data, or of a tuple and a dict -/
def rEqO (K : PySem.W.Frag) : R2 := fun x y H Q => rEqD K x y H Q ∨ ∃ a xs b kvs, x = .ref a ∧ y = .ref b ∧ SqT K H a xs ∧ H b = some (.dK kvs) ∧ Q (.bl false) H
theorem op_eqO {X : Cx} (hu : X.A.units + 64 < cLine) : OpR X (compareOp .Eq) (rEqO X.K) := by
  intro pins s σ H x y v u Q I rx ry h
  rcases h with h | ⟨a, xs, b, kvs, rfl, rfl, hx, hy, q⟩
  · exact op_eqD hu pins s σ H x y v u Q I rx ry h
  · cases (show v = Value.ref a from rx)
    cases (show u = Value.ref b from ry)
    obtain ⟨its, r, ht, _⟩ := I.tuple hx
    obtain ⟨_, _, _, _, o, es, ep, h2, ex, h3, _⟩ := (show ObjOk X.prog X.w H s.heap b (.dK kvs) from I.hok b _ hy)
    exact tuple_dict ht h2 ex.1 h3 (by omega) X.prog X.w X.xe _ ⟨.bl false, H, I, rfl, q⟩
end Ty
set_option Elab.async false
set_option linter.all false
set_option maxRecDepth 100000
set_option maxHeartbeats 4000000
/-! Ty2: a tuple turned about -/
namespace HT
open PySem PySem.Spec PyProof.Rows
section
variable {prog : Program} {w : World} {A : Around} {E : Value → Shared → Prop} {s : Shared}
theorem applied_back {sl : Addr} {vl vu vs : Value} {n : Nat} {Q : Int × Int × Nat → Shared → Prop} (hs : s.heap.IsSliceOf sl vl vu vs) (pl : IsPart vl none) (pu : IsPart vu none) (ps : IsPart vs (some (-1)))
    (h : Q ((n : Int) - 1, -1, n) s) : wpAny (model prog w) A (Builtin.Slice.sliceApplied (.ref sl) (pure (n : Int))) Q E s := by
  obtain ⟨os, hos, hcs, hds⟩ := id hs
  unfold Builtin.Slice.sliceApplied Builtin.Slice.sliceFields
  refine wpAny_bind (wpAny_bind (wpAny_field hos hds (x := vl) rfl (wpAny_bind (wpAny_field hos hds (x := vu) rfl (wpAny_bind (wpAny_field hos hds (x := vs) rfl (wpAny_pure ?_)))))))
  refine wpAny_bind (slicePart_ ps ?_)
  show wpAny _ _ (if ((-1 : Int) == 0) = true then _ else _) _ _ s
  rw [if_neg (by decide)]
  refine wpAny_bind (slicePart_ pl (wpAny_bind (slicePart_ pu (wpAny_bind (wpAny_pure ?_)))))
  show wpAny _ _ (pure ((n : Int) - 1, (-1 : Int), Builtin.Slice.slicePlaces ((n : Int) - 1) (-1) (-1))) _ _ s
  have e : Builtin.Slice.slicePlaces ((n : Int) - 1) (-1) (-1) = n := by
    unfold Builtin.Slice.slicePlaces
    have h1 : ¬ ((-1 : Int) > 0) := by decide
    simp only [h1, if_false]
    by_cases z : (n : Int) - 1 > -1
    · rw [if_pos z, show (-(-1) : Int) = 1 by decide, Int.ediv_one]
      omega
    · rw [if_neg z]
      omega
  rw [e]
  exact wpAny_pure h
theorem pick_back (xs : Array Value) : ((List.range xs.size).filterMap fun (m : Nat) => xs[(((xs.size : Int) - 1) + (m : Int) * (-1)).toNat]?).toArray = xs.toList.reverse.toArray := by
  have e : ((List.range xs.size).filterMap fun (m : Nat) => xs[(((xs.size : Int) - 1) + (m : Int) * (-1)).toNat]?) = ((List.range xs.size).map fun m => xs.size - 1 - m).filterMap (xs[·]?) := by
    rw [List.filterMap_map]
    congr 1
    funext m
    show _ = xs[xs.size - 1 - m]?
    congr 1
    omega
  rw [e, PySem.W.krv_range, List.filterMap_reverse, PySem.W.krv_all]
theorem getItem_tuple_back {t sl : Addr} {items : Array Value} {vl vu vs : Value} {Q : Value → Shared → Prop} (ht : IsTup s.heap t items) (hs : s.heap.IsSliceOf sl vl vu vs) (pl : IsPart vl none) (pu : IsPart vu none) (ps : IsPart vs (some (-1)))
    (h : Q (.ref s.heap.objs.size) { s with heap := s.heap.push { cls := .type "tuple", data := .seq items.toList.reverse.toArray } })
    (hsz : items.size ≤ sizeLine) : wpAny (model prog w) A (getItem (.ref t) (.ref sl)) Q E s := by
  have ok : sizeOk (.seq items.toList.reverse.toArray) := by
    show items.toList.reverse.toArray.size ≤ sizeLine
    rw [List.size_toArray, List.length_reverse, Array.length_toList]
    exact hsz
  obtain ⟨os, hos, hcs, hds⟩ := id hs
  have isSlice : s.TypeIs (.ref sl) "slice" := ⟨os, hos, hcs⟩
  unfold getItem
  try with_reducible refine wpAny_holding ?_
  first | refine wpAny_bind (wpAny_pure ?_) | skip
  refine wpAny_bind (wpAny_sequenceKey ht.typeIs (by decide) ?_)
  refine wpAny_bind (wpAny_callSpecial?_slot (name := Str.ofString "__getitem__") ht.typeIs slot_tuple_getitem (wpAny_call_entry slot_tuple_getitem ht.typeIs entry_tuple_getitem ?_ (args_tuple_getitem _ _)))
  show wpAny _ _ (Builtin.Tuple.tupleItemsOf (.ref t) >>= _) _ _ s
  refine wpAny_bind (tupleItemsOf_ ht (wpAny_bind (wpAny_typeOf isSlice ?_)))
  rw [if_pos (by decide)]
  refine wpAny_bind (applied_back hs pl pu ps ?_)
  show wpAny _ _ (if ((((items.size : Int) - 1) == 0 && (-1 : Int) == 1 && items.size == items.size) = true) then _ else _) _ _ s
  rw [if_neg (by
    intro q
    rw [Bool.and_eq_true, Bool.and_eq_true] at q
    exact absurd q.1.2 (by decide)), pick_back]
  first
    | exact wpAny_bind (m := Builtin.Tuple.tupleExact _) (wpAny_newObj_type (wpAny_pure ⟨_, rfl, wpAny_pure h⟩) ok)
    | exact wpAny_bind (m := Builtin.Tuple.tupleExact _) (wpAny_newObj_type (wpAny_bind (wpAny_pure (wpAny_pure ⟨_, rfl, wpAny_pure h⟩))) ok)
    | exact wpAny_bind (wpAny_bind (m := Builtin.Tuple.tupleExact _) (wpAny_newObj_type (wpAny_pure (wpAny_pure ⟨_, rfl, wpAny_pure h⟩)) ok))
    | exact wpAny_bind (wpAny_bind (m := Builtin.Tuple.tupleExact _) (wpAny_newObj_type (wpAny_pure ⟨_, rfl, wpAny_pure h⟩) ok))
end
end HT
namespace Ty
open PySem PySem.Spec PyProof.Rows L2
def tRevT (K : PySem.W.Frag) (te : TE) (th : TO) : TE := fun σ H Q => te σ H fun x H1 => th σ H1 fun o H2 => ∃ a xs, x = .ref a ∧ o = some (-1) ∧ SqT K H2 a xs ∧ ∀ p, H2 p = none → Q (.ref p) (upd H2 p (.tup xs.reverse))
theorem pe_revT {X : Cx} {e k : Expr} {te : TE} {th : TO} {p3 pos : Pos} (he : PE X e te) (hk : PO X (some k) th) : PE X (.Subscript e (.Slice none none (some k) p3) pos) (tRevT X.K te th) := by
  refine ⟨fun pins s σ H Q I h => ?_⟩
  refine Subscript_ (thn (he.run pins s σ H _ I h) fun v s1 ⟨x, H1, I1, r1, q1⟩ => ?_)
  refine wpAny_Slice (thn (po_none.run pins s1 σ H1 (fun o H2 => o = none ∧ H2 = H1) I1 ⟨rfl, rfl⟩) fun vl s2 ⟨l, H2, I2, pl, el, e2⟩ => ?_)
  subst el e2
  refine thn (po_none.run pins s2 σ H2 (fun o H3 => o = none ∧ H3 = H2) I2 ⟨rfl, rfl⟩) fun vu s3 ⟨u, H3, I3, pu, eu, e3⟩ => ?_
  subst eu e3
  refine thn (hk.run pins s3 σ H3 _ I3 q1) fun vs s4 ⟨o, H4, I4, ps, q2⟩ => ?_
  obtain ⟨a, xs, rfl, rfl, hx, q⟩ := q2
  cases (show v = Value.ref a from r1)
  have I5 : L2.Inv X pins σ H4 { s4 with heap := s4.heap.push { cls := .type "slice", data := .fields #[vl, vu, vs] } } := I4.kept (t' := s4.toks) fun b ob q => Heap.get?_push_of_some _ q
  obtain ⟨its, r, ht, hz⟩ := I5.tuple hx
  have len := r.length
  show wpAny (model X.prog X.w) X.A (subscriptTail e (.Slice none none (some k) p3) (.ref a) (.ref s4.heap.objs.size)) (EP X pins σ Q) X.xe { s4 with heap := s4.heap.push { cls := .type "slice", data := .fields #[vl, vu, vs] } }
  refine tail_any (ops := [.ref a, .ref s4.heap.objs.size]) ht.typeIs (PyProof.Rows.slot_tuple_getitem.lookup) ?_ (by with_unfolding_all rfl)
  refine HT.getItem_tuple_back ht (Heap.IsSliceOf.new _ vl vu vs) pl pu ps ?_ (by rw [List.size_toArray]; omega)
  refine ⟨.ref _, _, I5.laid (t' := s4.toks) (o := .tup xs.reverse) (fun b ob q => Heap.get?_push_of_some _ q) (Nat.le_refl _) ?_, rfl, q _ (I5.hok.fresh (Nat.le_refl _))⟩
  exact ⟨by rw [List.length_reverse]; exact hz, _, r.reverse, ⟨_, Heap.get?_push_size _ rfl, rfl, _, rfl⟩⟩
end Ty
set_option Elab.async false
set_option linter.all false
set_option maxRecDepth 100000
set_option maxHeartbeats 4000000
namespace Bx
open PySem PySem.Spec PyProof.Rows L2 Evl PySem.StrLaws
theorem occ_full (s sub : Str) (hi : Nat) : ∀ (l : List Nat) (st : Array Nat × Nat), 1 ≤ st.fst.size → (forIn l st (occBody s sub hi 1)).run.fst = st.fst
  | [], st, _ => rfl
  | a :: l, st, h => by
    rw [List.forIn_cons]
    unfold occBody
    rw [if_neg (fun z => by
      have := z.1.1.1
      omega)]
    exact occ_full s sub hi l _ h
theorem occ_hit (s sub : Str) (hi k : Nat) (post : List Nat) (hk : k + sub.length ≤ hi ∧ Builtin.Str.subAt s sub k = true) : ∀ (pre : List Nat) (free : Nat), (∀ i ∈ pre ++ k :: post, free ≤ i) →
    (∀ i ∈ pre, ¬ (i + sub.length ≤ hi ∧ Builtin.Str.subAt s sub i = true)) → (forIn (pre ++ k :: post) ((#[] : Array Nat), free) (occBody s sub hi 1)).run.fst = #[k]
  | [], free, hf, _ => by
    rw [List.nil_append, List.forIn_cons]
    unfold occBody
    rw [if_pos ⟨⟨⟨by simp, hf k (by simp)⟩, hk.1⟩, hk.2⟩]
    exact occ_full s sub hi post _ (by simp)
  | a :: pre, free, hf, hn => by
    rw [List.cons_append, List.forIn_cons]
    unfold occBody
    rw [if_neg (fun z => hn a (by simp) ⟨z.1.2, z.2⟩)]
    exact occ_hit s sub hi k post hk pre free (fun i hi' => hf i (by rw [List.cons_append]; exact List.mem_cons_of_mem _ hi')) fun i hi' => hn i (List.mem_cons_of_mem _ hi')
/-- where a letter stands first -/
theorem index_one {L : List Nat} {c k : Nat} (hk : L[k]? = some c) (hn : ∀ j, j < k → L[j]? ≠ some c) : Builtin.Str.occurrences (mk L) (mk [c]) 0 (mk L).length 1 = [k] := by
  rw [occ_eq]
  have lt : k < L.length := (List.getElem?_eq_some_iff.mp hk).1
  have e : List.range' 0 ((mk L).length + 1 - 0) = List.range' 0 k ++ k :: List.range' (k + 1) (L.length - k) := by
    rw [mk_len, Nat.sub_zero]
    have e1 : L.length + 1 = k + (1 + (L.length - k)) := by omega
    rw [e1, ← List.range'_append_1, Nat.zero_add, Nat.add_comm 1, List.range'_succ]
  rw [e, occ_hit (mk L) (mk [c]) (mk L).length k _ ((subAt_one (mk L) c k).mpr hk) _ 0 (fun _ _ => Nat.zero_le _) fun i hi z => ?_]
  have := (subAt_one (mk L) c i).mp z
  refine hn i ?_ this
  have := List.mem_range'_1.mp hi
  omega
theorem lower_low {l : List Nat} (h : Low l) : Txt.lower (mk l) = mk l := by
  rw [lower_ascii fun c hc => by
    have := h c hc
    omega]
  have e : (mk l).cps.map lo1 = (mk l).cps := by
    apply Array.ext'
    rw [Array.toList_map]
    show l.map lo1 = l
    conv => rhs; rw [← List.map_id l]
    apply List.map_congr_left
    intro c hc
    have := h c hc
    unfold lo1
    rw [if_neg (by omega)]
    rfl
  rw [e]
end Bx
set_option Elab.async false
set_option linter.all false
set_option maxRecDepth 100000
set_option maxHeartbeats 4000000
namespace Bx
open PySem PySem.Spec PyProof.Rows L2 Evl
theorem joinL_nil : ∀ ps : List (List Nat), TL.joinL [] ps = ps.flatten
  | [] => rfl
  | [p] => by simp [TL.joinL]
  | p :: q :: r => by
    show p ++ ([] ++ TL.joinL [] (q :: r)) = _
    rw [joinL_nil (q :: r)]
    rfl
theorem join_mk (ps : List (List Nat)) : Txt.join (mk []) (ps.map mk) = mk ps.flatten := by
  rw [TL.join_eq]
  have h := TL.tl_join (mk []) (ps.map mk)
  rw [List.map_map] at h
  have e : (ps.map (TL.tl ∘ mk)) = ps := by
    conv => rhs; rw [← List.map_id ps]
    exact List.map_congr_left fun _ _ => rfl
  rw [e] at h
  have h2 : TL.tl (Str.join (mk []) (ps.map mk)) = ps.flatten := by
    rw [h]
    exact joinL_nil ps
  rw [mk_eq (Str.join (mk []) (ps.map mk))]
  exact congrArg mk h2
theorem sing_flat (t : List Nat) : (t.map fun c => [c]).flatten = t := by
  induction t with
  | nil => rfl
  | cons c t ih => simp only [List.map_cons, List.flatten_cons, ih]; rfl
theorem join_signs (t : List Nat) : Txt.join (mk []) (t.map fun c => mk [c]) = mk t := by
  have h := join_mk (t.map fun c => [c])
  rw [List.map_map, sing_flat] at h
  exact h
theorem len_signs (t : List Nat) : ((t.map fun c => mk [c]).map (·.length)).sum = t.length := by
  induction t with
  | nil => rfl
  | cons c t ih =>
    simp only [List.map_cons, List.sum_cons, List.length_cons, ih]
    rw [mk_len]
    simp
    omega
/-! ### the draws of a law -/
/-- a generator's list: what is left of a great seed, the small one, the number of draws, at most n -/
def Gen (H : Hp) (g : Addr) (n : Nat) : Prop := ∃ b s c : Int, H g = some (.lst [.int b, .int s, .int c]) ∧ 0 ≤ b ∧ b < 2 ^ 3000 ∧ 0 ≤ s ∧ s < 2147483647 ∧ 0 ≤ c ∧ c ≤ n
theorem Gen.ex {H H' : Hp} {g : Addr} {n : Nat} (h : Gen H g n) (e : Ex H H') : Gen H' g n := let ⟨b, s, c, h1, r⟩ := h; ⟨b, s, c, e _ _ h1, r⟩
theorem Gen.up {H : Hp} {g : Addr} {n m : Nat} (h : Gen H g n) (e : n ≤ m) : Gen H g m := let ⟨b, s, c, h1, h2, h3, h4, h5, h6, h7⟩ := h; ⟨b, s, c, h1, h2, h3, h4, h5, h6, by omega⟩
theorem Gen.there {H : Hp} {g : Addr} {n : Nat} (h : Gen H g n) : H g ≠ none := fun e => by
  obtain ⟨b, s, c, h1, _⟩ := h
  rw [h1] at e
  cases e
theorem Gen.ne {H : Hp} {g p : Addr} {n : Nat} (h : Gen H g n) (e : H p = none) : g ≠ p := fun z => h.there (by rw [z]; exact e)
theorem Gen.oth {H : Hp} {g p : Addr} {n : Nat} {o : HO} (h : Gen H g n) (e : g ≠ p) : Gen (upd H p o) g n := let ⟨b, s, c, h1, r⟩ := h; ⟨b, s, c, by rw [upd_ne e]; exact h1, r⟩
theorem bits_le {i : Int} {n : Nat} (h0 : 0 < n) (h : i.natAbs < 2 ^ n) : Builtin.Int.intBits i ≤ n := by
  unfold Builtin.Int.intBits
  split
  · omega
  · have := PySem.Flt.log2_lt_of h0 h
    omega
theorem mid_abs {i : Int} (h : i.natAbs < 2 ^ 200) : i.natAbs < 2 ^ 9000 := Nat.lt_of_lt_of_le h (Nat.pow_le_pow_right (by decide) (by decide))
theorem Xg.ne {g : Addr} {H H' : Hp} {p : Addr} {o : HO} (e : Xg g H H') (h : H p = some o) (n : p ≠ g) : H' p = some o := e p o n h
theorem Xg.mut {g : Addr} {H H' : Hp} {p : Addr} {o : HO} (e : Xg g H H') (h : H p = none) : Xg g H (L2.upd H' p o) := fun a u n ha => by
  rw [upd_ne (ne_of_none ha h)]
  exact e a u n ha
theorem Xg.ex {g : Addr} {H H1 H2 : Hp} (a : Xg g H H1) (b : Ex H1 H2) : Xg g H H2 := a.trans (Xg.of b)
end Bx
set_option Elab.async false
set_option linter.all false
set_option maxRecDepth 100000
set_option maxHeartbeats 4000000
/-! Dx: data that are compared, by short words -/
namespace Dx
open PySem PySem.Spec PyProof.Rows L2 Evl Bx
abbrev dT (ts : List (List Nat)) : PyData := .list (ts.map fun t => .str (mk t))
abbrev dI (ns : List Int) : PyData := .list (ns.map .int)
abbrev uT (ts : List (List Nat)) : PyData := .tuple (ts.map fun t => .str (mk t))
abbrev uI (ns : List Int) : PyData := .tuple (ns.map .int)
section
variable {K : PySem.W.Frag} {H : Hp} {p : Addr}
theorem dpAll_txs : ∀ ts : List (List Nat), DpAll K H (ts.map tx) (ts.map fun t => .str (mk t))
  | [] => .nil
  | t :: ts => .cons (.str _) (dpAll_txs ts)
theorem dp_txs {ts : List (List Nat)} (h : H p = some (.lst (ts.map tx))) : Dp K H (.ref p) (dT ts) := .lst (.inl (.inl h)) (dpAll_txs ts)
theorem dp_ints {ns : List Int} (h : H p = some (.lst (ns.map V.int))) : Dp K H (.ref p) (dI ns) := .lst (.inl (.inl h)) (dpAll_ints ns)
theorem dp_utxs {ts : List (List Nat)} (h : H p = some (.tup (ts.map tx))) : Dp K H (.ref p) (uT ts) := .tup (.inl (.inl h)) (dpAll_txs ts)
theorem dp_uints {ns : List Int} (h : H p = some (.tup (ns.map V.int))) : Dp K H (.ref p) (uI ns) := .tup (.inl (.inl h)) (dpAll_ints ns)
end
theorem sh_txs {ts : List (List Nat)} (h : ∀ t ∈ ts, Low t) : SeqAt.shaped (dT ts) = true := (flat_shaped _ fun d hd => by
  obtain ⟨n, hn, rfl⟩ := List.mem_map.mp hd
  exact ⟨str_ok (h n hn), rfl⟩).1
theorem sh_ints (ns : List Int) : SeqAt.shaped (dI ns) = true := shaped_ints ns
theorem sh_utxs {ts : List (List Nat)} (h : ∀ t ∈ ts, Low t) : SeqAt.shaped (uT ts) = true := (flat_shaped _ fun d hd => by
  obtain ⟨n, hn, rfl⟩ := List.mem_map.mp hd
  exact ⟨str_ok (h n hn), rfl⟩).2
theorem sh_uints (ns : List Int) : SeqAt.shaped (uI ns) = true := (flat_shaped _ fun d hd => by
  obtain ⟨n, hn, rfl⟩ := List.mem_map.mp hd
  exact ⟨rfl, rfl⟩).2
theorem eq_self {d : PyData} (h : SeqAt.shaped d = true) : V.bl (PyData.eqv d d) = V.bl true := by rw [SeqAt.eqv_refl d (SeqAt.canLay_of_shaped h)]
theorem ne_self {d : PyData} (h : SeqAt.shaped d = true) : V.bl (!PyData.eqv d d) = V.bl false := by rw [SeqAt.eqv_refl d (SeqAt.canLay_of_shaped h)]; rfl
theorem eqv_txs : ∀ ts us : List (List Nat), PyData.eqvAll (ts.map fun t => .str (mk t)) (us.map fun t => .str (mk t)) = decide (ts = us)
  | [], [] => by simp [PyData.eqvAll]
  | [], _ :: _ => by simp [PyData.eqvAll]
  | _ :: _, [] => by simp [PyData.eqvAll]
  | n :: ns, m :: ms => by
    show ((mk n == mk m) && PyData.eqvAll (ns.map fun t => .str (mk t)) (ms.map fun t => .str (mk t))) = _
    rw [eqv_txs ns ms]
    by_cases h1 : n = m <;> by_cases h2 : ns = ms <;> simp [h1, h2, mk_inj]
end Dx
namespace Dx
open PySem PySem.Spec PyProof.Rows L2 Evl Bx
theorem sIx_neg1 (n d : Nat) : HT.sIx (n + 1) d (some (0 - 1)) = n := by
  show (if (0 - 1 : Int) < 0 then ((0 - 1 : Int) + ((n + 1 : Nat) : Int)).toNat else min (0 - 1 : Int).toNat (n + 1)) = n
  rw [if_pos (by decide)]
  omega
theorem cut_but_last (xs : List V) (y : V) : cutV (xs ++ [y]) none (some (0 - 1)) = xs := by
  unfold cutV
  rw [HT.sIx_none, List.drop_zero, List.length_append]
  show List.take (HT.sIx (xs.length + 1) _ _ - 0) _ = _
  rw [sIx_neg1, Nat.sub_zero, List.take_append_of_le_length (Nat.le_refl _), List.take_of_length_le (Nat.le_refl _)]
end Dx
set_option Elab.async false
set_option linter.all false
set_option maxRecDepth 100000
set_option maxHeartbeats 4000000
/-! Ty3: loops over a text and any tuple; data that repr tells apart -/
namespace Ty
open PySem PySem.Spec PyProof.Rows L2 Evl Bx Rx
/-- for c, x in zip(a text, a tuple) -/
theorem forZipSTV {K : PySem.W.Frag} {σ : L2.St} {H : Hp} {D : Ends} {tu : TS} {ta : TA} {j k : Nat} {a : Addr} {u : List Nat} {xs : List V} (h : EvA ta σ H [tx u, .ref a]) (ht : SqT K H a xs) (hl : u.length = xs.length) (Pv : Nat → L2.St → Hp → Prop) (h0 : ∀ H1, Ex H H1 → Pv 0 σ H1)
    (hq : ∀ i σ' H', Pv i σ' H' → Ex H H') (hm : ∀ i σ' H' H2, Ex H' H2 → Pv i σ' H' → Pv i σ' H2)
    (hs : ∀ i c x σ' H', u[i]? = some c → xs[i]? = some x → Pv i σ' H' → tu { D with nx := Pv (i + 1), ct := Pv (i + 1), bk := D.nx } ((σ'.set j (some (tx [c]))).set k (some x)) H')
    (hd : ∀ σ' H', Pv u.length σ' H' → D.nx σ' H') : tFor (iZipST K ta) (gTup K 2 (gCons (gName j) (gCons (gName k) gNil))) tu D σ H :=
  h H (Ex.refl H) _ fun H1 e => ⟨mk u, a, _, rfl, ex_t e ht, by
    have hu : (u.map fun c => tx [c]) = (Sx.sgs (mk u)).map V.str := by rw [sgs_mk, List.map_map] <;> rfl
    have hz : ((Sx.sgs (mk u)).map V.str).length = u.length := by rw [← hu, List.length_map]
    refine for_zipF (xs := (Sx.sgs (mk u)).map V.str) (ys := xs) (by rw [hz, hl]) Pv (h0 H1 e) (fun i σ' H' p => ⟨rfl, ex_t (hq i σ' H' p) ht⟩) (fun i x y T σ' H' hx hy p hT => ?_) (fun σ' H' p => hd σ' H' (by rw [hz] at p; exact p))
    rw [← hu, List.getElem?_map] at hx
    cases hc : u[i]? with
    | none => rw [hc] at hx; cases hx
    | some c =>
      rw [hc] at hx
      obtain rfl : tx [c] = x := Option.some.inj hx
      exact ⟨T, _, rfl, .inl (.inl upd_same), rfl, _, _, rfl, _, _, rfl, rfl, hs i c y σ' _ hc hy (hm i σ' H' _ (Ex.new hT) p)⟩⟩
mutual
theorem dp_ex {K : PySem.W.Frag} {H H' : Hp} (e : Ex H H') : ∀ {v : V} {d : PyData}, Dp K H v d → Dp K H' v d
  | _, _, .non => .non
  | _, _, .bl b => .bl b
  | _, _, .int i => .int i
  | _, _, .str z => .str z
  | _, _, .lst s a => .lst (ex_l e s) (dpAll_ex e a)
  | _, _, .tup s a => .tup (ex_t e s) (dpAll_ex e a)
theorem dpAll_ex {K : PySem.W.Frag} {H H' : Hp} (e : Ex H H') : ∀ {vs : List V} {ds : List PyData}, DpAll K H vs ds → DpAll K H' vs ds
  | _, _, .nil => .nil
  | _, _, .cons a b => .cons (dp_ex e a) (dpAll_ex e b)
end
theorem dpAll_app {K : PySem.W.Frag} {H : Hp} : ∀ {vs : List V} {ds : List PyData} {ws : List V} {es : List PyData}, DpAll K H vs ds → DpAll K H ws es → DpAll K H (vs ++ ws) (ds ++ es)
  | _, _, _, _, .nil, b => b
  | _, _, _, _, .cons a r, b => .cons a (dpAll_app r b)
/-! ### whole numbers against what equals them -/
theorem eqv_ints : ∀ (ns : List Int) (es : List PyData), PyData.eqvAll (ns.map .int) es = true → es = ns.map .int ∨ ∃ b, PyData.bool b ∈ es
  | [], [], _ => .inl rfl
  | [], _ :: _, h => by simp [PyData.eqvAll] at h
  | _ :: _, [], h => by simp [PyData.eqvAll] at h
  | n :: ns, e :: es, h => by
    have h' : (PyData.eqv (.int n) e && PyData.eqvAll (ns.map .int) es) = true := h
    rw [Bool.and_eq_true] at h'
    obtain ⟨h1, h2⟩ := h'
    cases e with
    | int m =>
      have e1 : n = m := eq_of_beq h1
      subst e1
      rcases eqv_ints ns es h2 with z | ⟨b, z⟩
      · exact .inl (by rw [z]; rfl)
      · exact .inr ⟨b, List.mem_cons_of_mem _ z⟩
    | bool b => exact .inr ⟨b, List.mem_cons_self⟩
    | none => simp [PyData.eqv] at h1
    | str _ => simp [PyData.eqv] at h1
    | list _ => simp [PyData.eqv] at h1
    | tuple _ => simp [PyData.eqv] at h1
    | dict _ => simp [PyData.eqv] at h1
theorem eqv_bits : ∀ (ns : List Int) (es : List PyData), PyData.eqvAll (ns.map .int) es = true → es.length = ns.length ∧ ∀ e ∈ es, (∃ n ∈ ns, e = .int n) ∨ ∃ b, e = .bool b
  | [], [], _ => ⟨rfl, by simp⟩
  | [], _ :: _, h => by simp [PyData.eqvAll] at h
  | _ :: _, [], h => by simp [PyData.eqvAll] at h
  | n :: ns, e :: es, h => by
    have h' : (PyData.eqv (.int n) e && PyData.eqvAll (ns.map .int) es) = true := h
    rw [Bool.and_eq_true] at h'
    obtain ⟨h1, h2⟩ := h'
    obtain ⟨i1, i2⟩ := eqv_bits ns es h2
    refine ⟨by rw [List.length_cons, List.length_cons, i1], fun x hx => ?_⟩
    rcases List.mem_cons.mp hx with z | z
    · subst z
      cases x with
      | int m =>
        have e1 : n = m := eq_of_beq h1
        exact .inl ⟨n, List.mem_cons_self, by rw [e1]⟩
      | bool b => exact .inr ⟨b, rfl⟩
      | none => simp [PyData.eqv] at h1
      | str _ => simp [PyData.eqv] at h1
      | list _ => simp [PyData.eqv] at h1
      | tuple _ => simp [PyData.eqv] at h1
      | dict _ => simp [PyData.eqv] at h1
    · rcases i2 x z with ⟨m, hm, e⟩ | e
      · exact .inl ⟨m, List.mem_cons_of_mem _ hm, e⟩
      · exact .inr e
theorem shownAll_mem : ∀ {xs : List PyData} {t : Str}, t ∈ PyData.shownAll xs ↔ ∃ x ∈ xs, t = x.shown
  | [], t => by simp [PyData.shownAll]
  | x :: xs, t => by
    simp only [PyData.shownAll, List.mem_cons, shownAll_mem (xs := xs)]
    constructor
    · rintro (h | ⟨y, hy, h⟩)
      · exact ⟨x, .inl rfl, h⟩
      · exact ⟨y, .inr hy, h⟩
    · rintro ⟨y, rfl | hy, h⟩
      · exact .inl h
      · exact .inr ⟨y, hy, h⟩
theorem e_in_tuple (xs : List PyData) : 101 ∈ (PyData.tuple xs).shown.cps.toList ↔ ∃ x ∈ xs, 101 ∈ x.shown.cps.toList := by
  have hs : (PyData.tuple xs).shown = tupleText (PyData.shownAll xs) := by simp only [PyData.shown]
  rw [hs]
  unfold tupleText
  rw [mem_cps_append, mem_cps_append, mem_join, signs_lparen, signs_sep]
  constructor
  · rintro ((h | h) | h)
    · simp at h
    · rcases h with ⟨t, ht, hc⟩ | ⟨_, h⟩
      · obtain ⟨x, hx, rfl⟩ := shownAll_mem.mp ht
        exact ⟨x, hx, hc⟩
      · simp at h
    · exfalso
      split at h
      · rw [show ((",)" : String) : Str).cps.toList = [44, 41] by decide] at h
        simp at h
      · rw [show ((")" : String) : Str).cps.toList = [41] by decide] at h
        simp at h
  · rintro ⟨x, hx, hc⟩
    exact .inl (.inr (.inl ⟨_, shownAll_mem.mpr ⟨x, hx, rfl⟩, hc⟩))
theorem strict {ns : List Int} {es : List PyData} (h : PyData.eqvAll (ns.map .int) es = true) (hs : (PyData.tuple (ns.map .int)).shown = (PyData.tuple es).shown) : es = ns.map .int := by
  rcases eqv_ints ns es h with z | ⟨b, hb⟩
  · exact z
  · exfalso
    have h1 : 101 ∈ (PyData.tuple es).shown.cps.toList := (e_in_tuple es).mpr ⟨_, hb, (mem_shown_bool 101 b).mpr (by cases b <;> simp)⟩
    rw [← hs, e_in_tuple] at h1
    obtain ⟨x, hx, hc⟩ := h1
    obtain ⟨n, _, rfl⟩ := List.mem_map.mp hx
    exact shown_int_free' ⟨by decide, by decide⟩ n hc
/-! ### how long such a text is -/
theorem join_le (sep : Str) (k : Nat) : ∀ ts : List Str, (∀ t ∈ ts, t.length ≤ k) → (Str.join sep ts).length ≤ ts.length * (k + sep.length)
  | [], _ => by rw [join_nil]; exact Nat.zero_le _
  | [t], h => by
    rw [join_one]
    have := h t List.mem_cons_self
    simp only [List.length_cons, List.length_nil]
    omega
  | t :: u :: r, h => by
    rw [join_cons_cons]
    have h1 := h t List.mem_cons_self
    have ih := join_le sep k (u :: r) fun x hx => h x (List.mem_cons_of_mem _ hx)
    have e : (t ++ sep ++ Str.join sep (u :: r)).length = t.length + sep.length + (Str.join sep (u :: r)).length := by
      show (t ++ sep ++ Str.join sep (u :: r)).cps.size = t.cps.size + sep.cps.size + (Str.join sep (u :: r)).cps.size
      rw [← Array.length_toList, cps_toList_append, cps_toList_append, List.length_append, List.length_append]
      rfl
    rw [e]
    simp only [List.length_cons] at ih ⊢
    rw [Nat.add_mul (r.length + 1) 1]
    omega
theorem tuple_le {xs : List PyData} {k : Nat} (h : ∀ x ∈ xs, x.shown.length ≤ k) : (PyData.tuple xs).shown.length ≤ xs.length * (k + 2) + 3 := by
  have hs : (PyData.tuple xs).shown = tupleText (PyData.shownAll xs) := by simp only [PyData.shown]
  rw [hs]
  have hl : ∀ ys : List PyData, (PyData.shownAll ys).length = ys.length := by
    intro ys
    induction ys with
    | nil => rfl
    | cons y ys ih => simp only [PyData.shownAll, List.length_cons, ih]
  have j := join_le ", " k (PyData.shownAll xs) fun t ht => by
    obtain ⟨x, hx, rfl⟩ := shownAll_mem.mp ht
    exact h x hx
  rw [hl] at j
  have e2 : (((", " : String) : Str)).length = 2 := by decide
  rw [e2] at j
  unfold tupleText
  have e : ∀ a b c : Str, (a ++ b ++ c).length = a.length + b.length + c.length := by
    intro a b c
    show (a ++ b ++ c).cps.size = a.cps.size + b.cps.size + c.cps.size
    rw [← Array.length_toList, cps_toList_append, cps_toList_append, List.length_append, List.length_append]
    rfl
  rw [e]
  have e1 : ((("(" : String) : Str)).length = 1 := by decide
  rw [e1]
  have e3 : (((if (PyData.shownAll xs).length == 1 then ",)" else ")" : String)) : Str).length ≤ 2 := by
    split <;> decide
  omega
theorem bool_le (b : Bool) : (PyData.bool b).shown.length ≤ 5 := by cases b <;> decide
theorem int_le {i : Int} (h : i.natAbs < 2 ^ 40) : (PyData.int i).shown.length ≤ 41 := by
  have hl : i.natAbs.log2 < 40 := by
    by_cases z : i.natAbs = 0
    · rw [z]
      decide
    · exact (Nat.log2_lt z).mpr h
  have h1 := int_text_length_le (a := i) (k := 40) (by decide) hl
  have e : (PyData.int i).shown.length = (toString i).length := by
    simp only [PyData.shown]
    show (Str.ofString (toString i)).cps.size = _
    rw [← Array.length_toList, signs_ofString, List.length_map]
    rfl
  omega
theorem int_show {i : Int} (h : i.natAbs < 2 ^ 40) : (PyData.int i).showable = true := by
  simp only [PyData.showable]
  refine decide_eq_true ?_
  by_cases z : i.natAbs = 0
  · rw [z]
    decide
  · exact (Nat.log2_lt z).mpr (Nat.lt_of_lt_of_le h (Nat.pow_le_pow_right (by decide) (by decide)))
theorem showAll : ∀ {xs : List PyData}, (∀ x ∈ xs, x.showable = true) → PyData.showableAll xs = true
  | [], _ => rfl
  | x :: xs, h => by
    simp only [PyData.showableAll, Bool.and_eq_true]
    exact ⟨h x List.mem_cons_self, showAll fun y hy => h y (List.mem_cons_of_mem _ hy)⟩
/-- a tuple of few small whole numbers, or of Booleans among them, has a text -/
theorem tuple_ok {es : List PyData} (hl : es.length ≤ 100) (h : ∀ e ∈ es, (∃ n : Int, n.natAbs < 2 ^ 40 ∧ e = .int n) ∨ ∃ b, e = .bool b) :
    (PyData.tuple es).showable = true ∧ (PyData.tuple es).shown.length ≤ sizeLine ∧ (PyData.tuple es).depth ≤ 60 := by
  refine ⟨?_, ?_, ?_⟩
  · simp only [PyData.showable]
    refine showAll fun e he => ?_
    rcases h e he with ⟨n, hn, rfl⟩ | ⟨b, rfl⟩
    · exact int_show hn
    · rfl
  · have := tuple_le (xs := es) (k := 41) fun e he => by
      rcases h e he with ⟨n, hn, rfl⟩ | ⟨b, rfl⟩
      · exact int_le hn
      · have := bool_le b
        omega
    have h2 : es.length * (41 + 2) ≤ 100 * (41 + 2) := Nat.mul_le_mul_right _ hl
    have h3 : 100 * (41 + 2) + 3 ≤ sizeLine := by decide
    omega
  · have : ∀ ds : List PyData, (∀ e ∈ ds, (∃ n : Int, n.natAbs < 2 ^ 40 ∧ e = .int n) ∨ ∃ b, e = .bool b) → PyData.depthAll ds = 0 := by
      intro ds
      induction ds with
      | nil => intro _; rfl
      | cons d ds ih =>
        intro hd
        show max (PyData.depth d) (PyData.depthAll ds) = 0
        rw [ih fun e he => hd e (List.mem_cons_of_mem _ he)]
        rcases hd d List.mem_cons_self with ⟨n, _, rfl⟩ | ⟨b, rfl⟩ <;> rfl
    show PyData.depthAll es + 1 ≤ 60
    rw [this es h]
    decide
end Ty
set_option Elab.async false
set_option linter.all false
set_option maxRecDepth 100000
set_option maxHeartbeats 4000000
/-! Ow: methods called by keywords; == of an object and any value whose type is known -/
namespace Ow
open PySem PySem.Spec PyProof.Rows L2
section
variable {X : Cx} {CX : CXT} {k n : Nat} {f C : Addr} {fd : FuncData} {ps ks : List Str} {sp : Sp} {E : XK} {m : Str} {apos pos : Pos} {o : Expr} {kws : List Keyword} {ta : TE} {tk : TA} {g : List Value → List Value → List Value} {gV : List V → List V → List V}
def tMethK (C : Addr) (m : Str) (sp : Sp) (gV : List V → List V → List V) (E : XK) (ta : TE) (tk : TA) : TE := fun σ H Q => ta σ H fun x H1 =>
  ∃ a dx fs, x = .ref a ∧ H1 a = some (.ins C dx fs) ∧ fs.lookup m = none ∧ tk σ H1 fun zs H2 => sp (gV [.ref a] zs) H2 Q E
/-- o.m(k = v, ..) -/
theorem pe_methK0 {pl : Sem Bool} (ob : PE X o ta) (cls : Cls X.K C) (mt : Meth X.K C m f) (F : FnOk X.prog X.w X.K X.mg X.base CX k f fd ps sp) (room : Room k X.A) (binds : KBinds X.K fd ps ks g gV) (pass : Passes CX X E) (keys : PK X kws tk)
    (hall : (backToKw pos (keywordEach kws X.env)).all (·.1.isSome) = true := by rfl) (named : (backToKw pos (keywordEach kws X.env)).filterMap (·.1) = ks := by rfl)
    (plain : ((backTo pos (starEach [] X.env)).any (·.1) || (backToKw pos (keywordEach kws X.env)).any (·.1.isNone)) = false := by rfl)
    (reads : eval (.Call (.Attribute o m apos) [] kws pos) X.env = (do
      let val ← eval o X.env
      standAt apos.atName
      let (fn, own) ← holding [val] (getMethod val m pl)
      callWith pos fn own (backTo pos (starEach [] X.env)) (backToKw pos (keywordEach kws X.env))) := by rfl) :
    PE X (.Call (.Attribute o m apos) [] kws pos) (tMethK C m sp gV E ta tk) := ⟨fun pins s σ H Q I h => by
  refine PySem.W.methodCall_KW (pl := pl) (thn (ob.run pins s σ H _ I h) fun u s1 got => ?_) reads
  obtain ⟨x, H1, I1, rx, a, dx, fs, isRef, there, none, q⟩ := got
  subst isRef
  cases (show u = Value.ref a from rx)
  refine getmeth_ok I1 there cls mt none ?_
  refine PySem.W.callWith_KW0 (first := [.ref a]) (h₀ := X.base) I1.ok.mod.kin mt.kp hall (thn (keys.run pos pins s1 σ H1 _ I1 q) fun ws s2 got2 => ?_) plain
  obtain ⟨zs, H2, I2, rz, q2⟩ := got2
  refine ⟨I2.kIn, ?_⟩
  rw [named]
  have one : Vals [V.ref a] [Value.ref a] := .cons rfl .nil
  exact run_fnk (us := [.ref a] ++ []) (vs := [.ref a]) F room binds pass I2 one rz q2⟩
/-- what an own == tells of an object and a value -/
def spAny (R : Addr → V → Bool → Hp → Prop) : Sp := fun vs H Q _ => ∃ p y t, vs = [.ref p, y] ∧ R p y t H ∧ ∀ H', Ext H H' → Q (.bl t) H'
def rAny (K : PySem.W.Frag) (C : Addr) (R : Addr → V → Bool → Hp → Prop) : R2 := fun x y H Q =>
  ∃ p dp us tb t, x = .ref p ∧ H p = some (.ins C dp us) ∧ TyX K H y tb ∧ PySem.W.notFirst K C tb = true ∧ R p y t H ∧ ∀ H', Ext H H' → Q (.bl t) H'
theorem op_any {R : Addr → V → Bool → Hp → Prop} (F : FnOk X.prog X.w X.K X.mg X.base CX n f fd ps (spAny R)) (found : PySem.W.findIn X.K (.ref C) "__eq__" = some (some (.ref f)))
    (isfn : PySem.W.isFn X.K (.ref f) = true) (binds : Binds X.K fd ps []) (pass : Passes CX X E) (room : Room n X.A) : OpR X (compareOp .Eq) (rAny X.K C R) := by
  intro pins s σ H x y v u Q I rx ry told
  obtain ⟨p, dp, us, tb, t, rfl, atp, ty, nf, holds, go⟩ := told
  cases rx
  show wpAny (model X.prog X.w) X.A (richCompare .Eq (.ref p) u) (EP X pins σ Q) X.xe s
  obtain ⟨_, look1, _⟩ := ins_get I.hok atp
  obtain ⟨_, get1, _⟩ := look1.look
  obtain ⟨_, frame⟩ := I.fr
  obtain ⟨Pr, kit, hold, _⟩ := kit_of I ry ty
  refine PySem.W.cmp_K (op := .Eq) (tb := tb) room.units0 frame I.ok.mod.kin get1 (kit.ty _ _ I.kIn hold) nf found isfn ?_
  have promise : spAny R [.ref p, y] H (fun z H' => z = .bl t ∧ Ext H H') E := ⟨p, y, t, rfl, holds, fun H' e => ⟨rfl, e⟩⟩
  have two := F.len _ _ _ _ promise
  have both : Vals [V.ref p, y] [Value.ref p, u] := .cons rfl (.cons ry .nil)
  have bound := binds s [.ref p, u] I.kIn (by simpa using two)
  simp only [List.append_nil] at bound
  refine wpAny_call (codeAny_mono (F.run X.A X.stack s H ⟨[.ref p, u], []⟩ [.ref p, u] [.ref p, y] _ E room I.env0 bound both promise) fun r s' ends => ?_)
  match r, ends with
  | .error e, ends => exact pass pins σ H s e s' I ends
  | .ok (.ret w), ends =>
    obtain ⟨z, H', J, rz, ez, ex⟩ := I.after ends
    subst ez
    cases rz
    exact ⟨.bl t, H', J, rfl, go H' ex⟩
  | .ok .next, ends => exact ends.elim
  | .ok .brk, ends => exact ends.elim
  | .ok .cont, ends => exact ends.elim
end
end Ow
set_option Elab.async false
set_option linter.all false
set_option maxRecDepth 100000
set_option maxHeartbeats 4000000
/-! Rep: how long the texts of numbers, words, and lists of terms are -/
namespace Rep
open PySem PySem.Spec PyProof.Rows L2 Evl Bx
theorem wide_le {i : Int} {b : Nat} (hb : 0 < b) (h : i.natAbs < 2 ^ b) : (PyData.int i).shown.length ≤ b + 1 := by
  have hl : i.natAbs.log2 < b := by
    by_cases z : i.natAbs = 0
    · rw [z]
      exact hb
    · exact (Nat.log2_lt z).mpr h
  have h1 := int_text_length_le (a := i) (k := b) hb hl
  have e : (PyData.int i).shown.length = (toString i).length := by
    simp only [PyData.shown]
    show (Str.ofString (toString i)).cps.size = _
    rw [← Array.length_toList, signs_ofString, List.length_map]
    rfl
  omega
theorem wide_show {i : Int} {b : Nat} (hb : b ≤ 1900) (h : i.natAbs < 2 ^ b) : (PyData.int i).showable = true := by
  simp only [PyData.showable]
  refine decide_eq_true ?_
  by_cases z : i.natAbs = 0
  · rw [z]
    decide
  · exact (Nat.log2_lt z).mpr (Nat.lt_of_lt_of_le h (Nat.pow_le_pow_right (by decide) (by omega)))
theorem word_le {l : List Nat} (h : Low l) : (PyData.str (mk l)).shown.length ≤ 10 * l.length + 2 := by
  have e : (PyData.str (mk l)).shown = reprText (mk l) := by simp only [PyData.shown]
  rw [e]
  have := PySem.StrLaws.reprText_len (mk l) fun c hc => by
    have := (h c hc).2
    have : (200 : Nat) < 16 ^ 8 := by decide
    omega
  rwa [mk_len] at this
theorem all_len : ∀ ys : List PyData, (PyData.shownAll ys).length = ys.length
  | [] => rfl
  | y :: ys => by simp only [PyData.shownAll, List.length_cons, all_len ys]
theorem list_le {xs : List PyData} {k : Nat} (h : ∀ x ∈ xs, x.shown.length ≤ k) : (PyData.list xs).shown.length ≤ xs.length * (k + 2) + 2 := by
  have hs : (PyData.list xs).shown = listText (PyData.shownAll xs) := by simp only [PyData.shown]
  rw [hs]
  have h0 := textFrom_len_le (PyData.shownAll xs) 0 "["
  have sums : ∀ ys : List Str, (∀ t ∈ ys, t.length ≤ k) → (ys.map (·.length)).sum ≤ ys.length * k := by
    intro ys
    induction ys with
    | nil => intro _; exact Nat.zero_le _
    | cons y ys ih =>
      intro hy
      rw [List.map_cons, List.sum_cons, List.length_cons, Nat.add_mul]
      have h1 := hy y List.mem_cons_self
      have h2 := ih fun t ht => hy t (List.mem_cons_of_mem _ ht)
      omega
  have s0 := sums (PyData.shownAll xs) fun t ht => by
    obtain ⟨x, hx, rfl⟩ := Ty.shownAll_mem.mp ht
    exact h x hx
  rw [all_len] at h0 s0
  unfold listText
  have e : ∀ a b : Str, (a ++ b).length = a.length + b.length := by
    intro a b
    show (a ++ b).cps.size = a.cps.size + b.cps.size
    rw [← Array.length_toList, cps_toList_append, List.length_append]
    rfl
  rw [e]
  have e1 : ((("[" : String) : Str)).length = 1 := by decide
  have e3 : ((("]" : String) : Str)).length = 1 := by decide
  rw [Nat.mul_add]
  omega
/-- words of at most 30 letters with numbers below 2 ^ 300, at most 150 of them -/
theorem terms_ok {ts : Tm.Terms} (low : ∀ e ∈ ts, Low e.1) (len : ∀ e ∈ ts, e.1.length ≤ 29) (num : ∀ e ∈ ts, e.2.natAbs < 2 ^ 300) (few : ts.length ≤ 150) :
    (PyData.list (ts.map fun e => .tuple [.str (mk e.1), .int e.2])).showable = true ∧ (PyData.list (ts.map fun e => .tuple [.str (mk e.1), .int e.2])).shown.length ≤ sizeLine ∧ (PyData.list (ts.map fun e => .tuple [.str (mk e.1), .int e.2])).depth ≤ 60 := by
  refine ⟨?_, ?_, ?_⟩
  · simp only [PyData.showable]
    refine Ty.showAll fun x hx => ?_
    obtain ⟨e, he, rfl⟩ := List.mem_map.mp hx
    simp only [PyData.showable]
    refine Ty.showAll fun y hy => ?_
    simp only [List.mem_cons, List.not_mem_nil, or_false] at hy
    rcases hy with h | h <;> rw [h]
    · rfl
    · exact wide_show (b := 300) (by decide) (num e he)
  · have h1 := list_le (xs := ts.map fun e => .tuple [.str (mk e.1), .int e.2]) (k := 609) fun x hx => by
      obtain ⟨e, he, rfl⟩ := List.mem_map.mp hx
      have h2 := Ty.tuple_le (xs := [.str (mk e.1), .int e.2]) (k := 301) fun y hy => by
        simp only [List.mem_cons, List.not_mem_nil, or_false] at hy
        rcases hy with h | h <;> rw [h]
        · have := word_le (low e he)
          have := len e he
          omega
        · exact wide_le (b := 300) (by decide) (num e he)
      simpa using h2
    rw [List.length_map] at h1
    exact Nat.le_trans h1 (sz_of (by omega))
  · have key : ∀ ts : Tm.Terms, PyData.depthAll (ts.map fun e => PyData.tuple [.str (mk e.1), .int e.2]) ≤ 2 := by
      intro ts
      induction ts with
      | nil => exact Nat.zero_le _
      | cons e r ih =>
        show max (max 0 (max 0 0) + 1) (PyData.depthAll (r.map fun e => PyData.tuple [.str (mk e.1), .int e.2])) ≤ 2
        omega
    show PyData.depthAll (ts.map fun e => PyData.tuple [.str (mk e.1), .int e.2]) + 1 ≤ 60
    have := key ts
    omega
end Rep
set_option Elab.async false
set_option linter.all false
set_option maxRecDepth 100000
set_option maxHeartbeats 4000000
namespace K15
open PySem PySem.Spec PyProof.Rows L2 Evl Bx
def topS (i : Nat) : Stmt := PySem.Challenge.pw_skipcounts_k15_whole_texts_in_place_of_o.main.body.getD i (.Pass ⟨0, 0, 0, 0⟩)
abbrev s__law_same : Stmt := topS 44
abbrev N__law_same : List Str := ["_law_told", "_law_due"]
theorem sc__law_same : FnScope N__law_same ["_law_told", "_law_due"] (defScope s__law_same) := ⟨rfl, rfl, rfl, by decide +kernel, rfl, by decide +kernel, by decide +kernel⟩
abbrev s__law_hash : Stmt := topS 26
abbrev N__law_hash : List Str := ["_law_seed", "_law_index", "_law_mixed"]
theorem sc__law_hash : FnScope N__law_hash ["_law_seed", "_law_index"] (defScope s__law_hash) := ⟨rfl, rfl, rfl, by decide +kernel, rfl, by decide +kernel, by decide +kernel⟩
abbrev s__law_random : Stmt := topS 27
abbrev N__law_random : List Str := ["_law_generator_here", "_law_bound", "_law_drawn_here", "_law_turn"]
theorem sc__law_random : FnScope N__law_random ["_law_generator_here", "_law_bound"] (defScope s__law_random) := ⟨rfl, rfl, rfl, by decide +kernel, rfl, by decide +kernel, by decide +kernel⟩
abbrev s__law_signs : Stmt := topS 30
abbrev N__law_signs : List Str := ["_law_generator_here", "_law_many", "_law_left", "_law_turn"]
theorem sc__law_signs : FnScope N__law_signs ["_law_generator_here", "_law_many"] (defScope s__law_signs) := ⟨rfl, rfl, rfl, by decide +kernel, rfl, by decide +kernel, by decide +kernel⟩
abbrev s__law_word : Stmt := topS 31
abbrev N__law_word : List Str := ["_law_generator_here", "_law_signs_here", "_law_least", "_law_most", "_law_many", "_law_turn"]
theorem sc__law_word : FnScope N__law_word ["_law_generator_here", "_law_signs_here", "_law_least", "_law_most"] (defScope s__law_word) := ⟨rfl, rfl, rfl, by decide +kernel, rfl, by decide +kernel, by decide +kernel⟩
abbrev s__law_number : Stmt := topS 32
abbrev N__law_number : List Str := ["_law_generator_here"]
theorem sc__law_number : FnScope N__law_number ["_law_generator_here"] (defScope s__law_number) := ⟨rfl, rfl, rfl, by decide +kernel, rfl, by decide +kernel, by decide +kernel⟩
abbrev s__law_terms : Stmt := topS 33
abbrev N__law_terms : List Str := ["_law_generator_here", "_law_signs_here", "_law_count_here", "_law_most", "_law_turn"]
theorem sc__law_terms : FnScope N__law_terms ["_law_generator_here", "_law_signs_here", "_law_count_here", "_law_most"] (defScope s__law_terms) := ⟨rfl, rfl, rfl, by decide +kernel, rfl, by decide +kernel, by decide +kernel⟩
abbrev s__law_all_texts : Stmt := topS 38
abbrev N__law_all_texts : List Str := ["_law_signs_here", "_law_depth", "_law_found", "_law_last", "_law_size", "_law_later", "_law_word_here", "_law_letter"]
theorem sc__law_all_texts : FnScope N__law_all_texts ["_law_signs_here", "_law_depth"] (defScope s__law_all_texts) := ⟨rfl, rfl, rfl, by decide +kernel, rfl, by decide +kernel, by decide +kernel⟩
abbrev s__law_drawn : Stmt := topS 42
abbrev N__law_drawn : List Str := ["_law_generator_here", "_law_signs_here", "_law_terms_here", "_law_found", "_law_word_here", "_law_number_here", "_law_rows", "_law_text"]
theorem sc__law_drawn : FnScope N__law_drawn ["_law_generator_here", "_law_signs_here"] (defScope s__law_drawn) := ⟨rfl, rfl, rfl, by decide +kernel, rfl, by decide +kernel, by decide +kernel⟩
abbrev s__law_two_texts : Stmt := topS 43
abbrev N__law_two_texts : List Str := ["_law_generator_here", "_law_signs_here", "_law_one", "_law_way", "_law_at"]
theorem sc__law_two_texts : FnScope N__law_two_texts ["_law_generator_here", "_law_signs_here"] (defScope s__law_two_texts) := ⟨rfl, rfl, rfl, by decide +kernel, rfl, by decide +kernel, by decide +kernel⟩
abbrev s__law_pairs : Stmt := topS 39
abbrev N__law_pairs : List Str := ["_law_signs_here", "_law_most", "_law_found", "_law_first", "_law_last", "_law_both", "_law_size"]
theorem sc__law_pairs : FnScope N__law_pairs ["_law_signs_here", "_law_most"] (defScope s__law_pairs) := ⟨rfl, rfl, rfl, by decide +kernel, rfl, by decide +kernel, by decide +kernel⟩
abbrev s__law_count : Stmt := topS 35
abbrev N__law_count : List Str := ["_law_word_here", "_law_text", "_law_row", "_law_letter", "_law_back"]
theorem sc__law_count : FnScope N__law_count ["_law_word_here", "_law_text"] (defScope s__law_count) := ⟨rfl, rfl, rfl, by decide +kernel, rfl, by decide +kernel, by decide +kernel⟩
abbrev s__law_worth : Stmt := topS 36
abbrev N__law_worth : List Str := ["_law_terms_here", "_law_text", "_law_word_here", "_law_number_here"]
theorem sc__law_worth : FnScope N__law_worth ["_law_terms_here", "_law_text"] (defScope s__law_worth) := ⟨rfl, rfl, rfl, by decide +kernel, rfl, by decide +kernel, by decide +kernel⟩
abbrev s__law_gap : Stmt := topS 40
abbrev N__law_gap : List Str := ["_law_terms_here", "_law_first", "_law_last", "_law_one", "_law_other"]
theorem sc__law_gap : FnScope N__law_gap ["_law_terms_here", "_law_first", "_law_last", "_law_one", "_law_other"] (defScope s__law_gap) := ⟨rfl, rfl, rfl, by decide +kernel, rfl, by decide +kernel, by decide +kernel⟩
abbrev s__law_first_pair : Stmt := topS 41
abbrev N__law_first_pair : List Str := ["_law_signs_here", "_law_terms_here", "_law_one", "_law_other", "_law_degree", "_law_word_here", "_law_number_here", "_law_first", "_law_last"]
theorem sc__law_first_pair : FnScope N__law_first_pair ["_law_signs_here", "_law_terms_here", "_law_one", "_law_other"] (defScope s__law_first_pair) := ⟨rfl, rfl, rfl, by decide +kernel, rfl, by decide +kernel, by decide +kernel⟩
abbrev s_Sum_terms : Stmt := inClass (topS 18) 1
abbrev N_Sum_terms : List Str := ["self"]
theorem sc_Sum_terms : FnScope N_Sum_terms ["self"] (defScope s_Sum_terms) := ⟨rfl, rfl, rfl, by decide +kernel, rfl, by decide +kernel, by decide +kernel⟩
abbrev s__law_is_sum : Stmt := topS 37
abbrev N__law_is_sum : List Str := ["_law_told", "_law_due", "_law_found", "_law_word_here", "_law_number_here"]
theorem sc__law_is_sum : FnScope N__law_is_sum ["_law_told", "_law_due"] (defScope s__law_is_sum) := ⟨rfl, rfl, rfl, by decide +kernel, rfl, by decide +kernel, by decide +kernel⟩
abbrev s_is_text : Stmt := topS 9
abbrev N_is_text : List Str := ["value"]
theorem sc_is_text : FnScope N_is_text ["value"] (defScope s_is_text) := ⟨rfl, rfl, rfl, by decide +kernel, rfl, by decide +kernel, by decide +kernel⟩
abbrev s_is_whole : Stmt := topS 7
abbrev N_is_whole : List Str := ["value"]
theorem sc_is_whole : FnScope N_is_whole ["value"] (defScope s_is_whole) := ⟨rfl, rfl, rfl, by decide +kernel, rfl, by decide +kernel, by decide +kernel⟩
abbrev s__are_terms : Stmt := topS 20
abbrev N__are_terms : List Str := ["value", "item"]
theorem sc__are_terms : FnScope N__are_terms ["value"] (defScope s__are_terms) := ⟨rfl, rfl, rfl, by decide +kernel, rfl, by decide +kernel, by decide +kernel⟩
abbrev s_in_order : Stmt := topS 10
abbrev N_in_order : List Str := ["words"]
theorem sc_in_order : FnScope N_in_order ["words"] (defScope s_in_order) := ⟨rfl, rfl, rfl, by decide +kernel, rfl, by decide +kernel, by decide +kernel⟩
abbrev s_Sum_init : Stmt := inClass (topS 18) 0
abbrev N_Sum_init : List Str := ["self", "terms", "numbers", "word", "number"]
theorem sc_Sum_init : FnScope N_Sum_init ["self", "terms"] (defScope s_Sum_init) := ⟨rfl, rfl, rfl, by decide +kernel, rfl, by decide +kernel, by decide +kernel⟩
abbrev s_need_text : Stmt := topS 11
abbrev N_need_text : List Str := ["text"]
theorem sc_need_text : FnScope N_need_text ["text"] (defScope s_need_text) := ⟨rfl, rfl, rfl, by decide +kernel, rfl, by decide +kernel, by decide +kernel⟩
abbrev s__spots : Stmt := topS 15
abbrev N__spots : List Str := ["words", "spots", "word", "size", "beginning"]
theorem sc__spots : FnScope N__spots ["words"] (defScope s__spots) := ⟨rfl, rfl, rfl, by decide +kernel, rfl, by decide +kernel, by decide +kernel⟩
abbrev s__steps : Stmt := topS 16
abbrev N__steps : List Str := ["spots", "steps", "beginning", "at"]
theorem sc__steps : FnScope N__steps ["spots"] (defScope s__steps) := ⟨rfl, rfl, rfl, by decide +kernel, rfl, by decide +kernel, by decide +kernel⟩
abbrev s_beginning_counts : Stmt := topS 13
abbrev N_beginning_counts : List Str := ["words", "signs", "spots", "steps", "numbers", "sign", "small", "at", "ahead", "beginning"]
theorem sc_beginning_counts : FnScope N_beginning_counts ["words", "signs"] (defScope s_beginning_counts) := ⟨rfl, rfl, rfl, by decide +kernel, rfl, by decide +kernel, by decide +kernel⟩
abbrev s_Sum_worth : Stmt := inClass (topS 18) 3
abbrev N_Sum_worth : List Str := ["self", "text", "found", "word", "_", "number"]
theorem sc_Sum_worth : FnScope N_Sum_worth ["self", "text"] (defScope s_Sum_worth) := ⟨rfl, rfl, rfl, by decide +kernel, rfl, by decide +kernel, by decide +kernel⟩
abbrev s_need_sum : Stmt := topS 19
abbrev N_need_sum : List Str := ["total"]
theorem sc_need_sum : FnScope N_need_sum ["total"] (defScope s_need_sum) := ⟨rfl, rfl, rfl, by decide +kernel, rfl, by decide +kernel, by decide +kernel⟩
abbrev s__first_pair : Stmt := topS 24
abbrev N__first_pair : List Str := ["pairs", "ranks", "one", "other", "_"]
theorem sc__first_pair : FnScope N__first_pair ["pairs"] (defScope s__first_pair) := ⟨rfl, rfl, rfl, by decide +kernel, rfl, by decide +kernel, by decide +kernel⟩
abbrev s_part_counts : Stmt := topS 14
abbrev N_part_counts : List Str := ["words", "text", "word", "cut"]
theorem sc_part_counts : FnScope N_part_counts ["words", "text"] (defScope s_part_counts) := ⟨rfl, rfl, rfl, by decide +kernel, rfl, by decide +kernel, by decide +kernel⟩
abbrev s__cuts : Stmt := topS 23
abbrev N__cuts : List Str := ["word", "size", "low", "high"]
theorem sc__cuts : FnScope N__cuts ["word"] (defScope s__cuts) := ⟨rfl, rfl, rfl, by decide +kernel, rfl, by decide +kernel, by decide +kernel⟩
abbrev s_changes : Stmt := topS 22
abbrev N_changes : List Str := ["total", "one", "other", "words", "word", "_", "counts_in_one", "counts_in_other", "found", "number", "front", "part", "back", "gap", "pair"]
theorem sc_changes : FnScope N_changes ["total", "one", "other"] (defScope s_changes) := ⟨rfl, rfl, rfl, by decide +kernel, rfl, by decide +kernel, by decide +kernel⟩
abbrev s__law_kept_right : Stmt := topS 45
abbrev N__law_kept_right : List Str := ["_law_generator_here", "_law_signs_here", "_law_total", "_law_terms_here", "_law_one", "_law_other", "_law_wide", "_law_turn", "_law_first", "_law_last", "_law_piece"]
theorem sc__law_kept_right : FnScope N__law_kept_right ["_law_generator_here", "_law_signs_here", "_law_total", "_law_terms_here", "_law_one", "_law_other"] (defScope s__law_kept_right) := ⟨rfl, rfl, rfl, by decide +kernel, rfl, by decide +kernel, by decide +kernel⟩
abbrev s__law_normal : Stmt := topS 34
abbrev N__law_normal : List Str := ["_law_terms_here", "_law_words", "_law_found", "_law_word_here", "_law_number_here", "_law_at", "_law_factor"]
theorem sc__law_normal : FnScope N__law_normal ["_law_terms_here"] (defScope s__law_normal) := ⟨rfl, rfl, rfl, by decide +kernel, rfl, by decide +kernel, by decide +kernel⟩
abbrev s__law_right : Stmt := topS 46
abbrev N__law_right : List Str := ["_law_generator_here", "_law_signs_here", "_law_terms_here", "_law_one", "_law_other", "_law_third", "_law_total", "_law_near", "_law_due", "_law_last"]
theorem sc__law_right : FnScope N__law_right ["_law_generator_here"] (defScope s__law_right) := ⟨rfl, rfl, rfl, by decide +kernel, rfl, by decide +kernel, by decide +kernel⟩
abbrev s__law_cell : Stmt := topS 28
abbrev N__law_cell : List Str := ["_law_script", "_law_index"]
theorem sc__law_cell : FnScope N__law_cell ["_law_script", "_law_index"] (defScope s__law_cell) := ⟨rfl, rfl, rfl, by decide +kernel, rfl, by decide +kernel, by decide +kernel⟩
abbrev s__law_generator : Stmt := topS 29
abbrev N__law_generator : List Str := ["_law_script", "_law_index", "_law_seed"]
theorem sc__law_generator : FnScope N__law_generator ["_law_script", "_law_index"] (defScope s__law_generator) := ⟨rfl, rfl, rfl, by decide +kernel, rfl, by decide +kernel, by decide +kernel⟩
abbrev s_law : Stmt := topS 47
abbrev N_law : List Str := ["_law_script", "_law_index"]
theorem sc_law : FnScope N_law ["_law_script"] (defScope s_law) := ⟨rfl, rfl, rfl, by decide +kernel, rfl, by decide +kernel, by decide +kernel⟩
structure Tx (K : PySem.W.Frag) (mg : Str → Option Value) where
  a__law_same : Addr
  fd__law_same : FuncData
  F__law_same : Fun K "_law_same" "_law_same" s__law_same a__law_same fd__law_same
  g__law_same : mg "_law_same" = some (.ref a__law_same)
  a__law_hash : Addr
  fd__law_hash : FuncData
  F__law_hash : Fun K "_law_hash" "_law_hash" s__law_hash a__law_hash fd__law_hash
  g__law_hash : mg "_law_hash" = some (.ref a__law_hash)
  a__law_random : Addr
  fd__law_random : FuncData
  F__law_random : Fun K "_law_random" "_law_random" s__law_random a__law_random fd__law_random
  g__law_random : mg "_law_random" = some (.ref a__law_random)
  a__law_signs : Addr
  fd__law_signs : FuncData
  F__law_signs : Fun K "_law_signs" "_law_signs" s__law_signs a__law_signs fd__law_signs
  g__law_signs : mg "_law_signs" = some (.ref a__law_signs)
  a__law_word : Addr
  fd__law_word : FuncData
  F__law_word : Fun K "_law_word" "_law_word" s__law_word a__law_word fd__law_word
  g__law_word : mg "_law_word" = some (.ref a__law_word)
  a__law_number : Addr
  fd__law_number : FuncData
  F__law_number : Fun K "_law_number" "_law_number" s__law_number a__law_number fd__law_number
  g__law_number : mg "_law_number" = some (.ref a__law_number)
  a__law_terms : Addr
  fd__law_terms : FuncData
  F__law_terms : Fun K "_law_terms" "_law_terms" s__law_terms a__law_terms fd__law_terms
  g__law_terms : mg "_law_terms" = some (.ref a__law_terms)
  a__law_all_texts : Addr
  fd__law_all_texts : FuncData
  F__law_all_texts : Fun K "_law_all_texts" "_law_all_texts" s__law_all_texts a__law_all_texts fd__law_all_texts
  g__law_all_texts : mg "_law_all_texts" = some (.ref a__law_all_texts)
  a__law_drawn : Addr
  fd__law_drawn : FuncData
  F__law_drawn : Fun K "_law_drawn" "_law_drawn" s__law_drawn a__law_drawn fd__law_drawn
  g__law_drawn : mg "_law_drawn" = some (.ref a__law_drawn)
  a__law_two_texts : Addr
  fd__law_two_texts : FuncData
  F__law_two_texts : Fun K "_law_two_texts" "_law_two_texts" s__law_two_texts a__law_two_texts fd__law_two_texts
  g__law_two_texts : mg "_law_two_texts" = some (.ref a__law_two_texts)
  a__law_pairs : Addr
  fd__law_pairs : FuncData
  F__law_pairs : Fun K "_law_pairs" "_law_pairs" s__law_pairs a__law_pairs fd__law_pairs
  g__law_pairs : mg "_law_pairs" = some (.ref a__law_pairs)
  a__law_count : Addr
  fd__law_count : FuncData
  F__law_count : Fun K "_law_count" "_law_count" s__law_count a__law_count fd__law_count
  g__law_count : mg "_law_count" = some (.ref a__law_count)
  a__law_worth : Addr
  fd__law_worth : FuncData
  F__law_worth : Fun K "_law_worth" "_law_worth" s__law_worth a__law_worth fd__law_worth
  g__law_worth : mg "_law_worth" = some (.ref a__law_worth)
  a__law_gap : Addr
  fd__law_gap : FuncData
  F__law_gap : Fun K "_law_gap" "_law_gap" s__law_gap a__law_gap fd__law_gap
  g__law_gap : mg "_law_gap" = some (.ref a__law_gap)
  a__law_first_pair : Addr
  fd__law_first_pair : FuncData
  F__law_first_pair : Fun K "_law_first_pair" "_law_first_pair" s__law_first_pair a__law_first_pair fd__law_first_pair
  g__law_first_pair : mg "_law_first_pair" = some (.ref a__law_first_pair)
  a_Sum_terms : Addr
  fd_Sum_terms : FuncData
  F_Sum_terms : Fun K "terms" "Sum.terms" s_Sum_terms a_Sum_terms fd_Sum_terms
  a__law_is_sum : Addr
  fd__law_is_sum : FuncData
  F__law_is_sum : Fun K "_law_is_sum" "_law_is_sum" s__law_is_sum a__law_is_sum fd__law_is_sum
  g__law_is_sum : mg "_law_is_sum" = some (.ref a__law_is_sum)
  a_is_text : Addr
  fd_is_text : FuncData
  F_is_text : Fun K "is_text" "is_text" s_is_text a_is_text fd_is_text
  g_is_text : mg "is_text" = some (.ref a_is_text)
  a_is_whole : Addr
  fd_is_whole : FuncData
  F_is_whole : Fun K "is_whole" "is_whole" s_is_whole a_is_whole fd_is_whole
  g_is_whole : mg "is_whole" = some (.ref a_is_whole)
  a__are_terms : Addr
  fd__are_terms : FuncData
  F__are_terms : Fun K "_are_terms" "_are_terms" s__are_terms a__are_terms fd__are_terms
  g__are_terms : mg "_are_terms" = some (.ref a__are_terms)
  a_in_order : Addr
  fd_in_order : FuncData
  F_in_order : Fun K "in_order" "in_order" s_in_order a_in_order fd_in_order
  g_in_order : mg "in_order" = some (.ref a_in_order)
  a_Sum_init : Addr
  fd_Sum_init : FuncData
  F_Sum_init : Fun K "__init__" "Sum.__init__" s_Sum_init a_Sum_init fd_Sum_init
  a_need_text : Addr
  fd_need_text : FuncData
  F_need_text : Fun K "need_text" "need_text" s_need_text a_need_text fd_need_text
  g_need_text : mg "need_text" = some (.ref a_need_text)
  a__spots : Addr
  fd__spots : FuncData
  F__spots : Fun K "_spots" "_spots" s__spots a__spots fd__spots
  g__spots : mg "_spots" = some (.ref a__spots)
  a__steps : Addr
  fd__steps : FuncData
  F__steps : Fun K "_steps" "_steps" s__steps a__steps fd__steps
  g__steps : mg "_steps" = some (.ref a__steps)
  a_beginning_counts : Addr
  fd_beginning_counts : FuncData
  F_beginning_counts : Fun K "beginning_counts" "beginning_counts" s_beginning_counts a_beginning_counts fd_beginning_counts
  g_beginning_counts : mg "beginning_counts" = some (.ref a_beginning_counts)
  a_Sum_worth : Addr
  fd_Sum_worth : FuncData
  F_Sum_worth : Fun K "worth" "Sum.worth" s_Sum_worth a_Sum_worth fd_Sum_worth
  a_need_sum : Addr
  fd_need_sum : FuncData
  F_need_sum : Fun K "need_sum" "need_sum" s_need_sum a_need_sum fd_need_sum
  g_need_sum : mg "need_sum" = some (.ref a_need_sum)
  a__first_pair : Addr
  fd__first_pair : FuncData
  F__first_pair : Fun K "_first_pair" "_first_pair" s__first_pair a__first_pair fd__first_pair
  g__first_pair : mg "_first_pair" = some (.ref a__first_pair)
  a_part_counts : Addr
  fd_part_counts : FuncData
  F_part_counts : Fun K "part_counts" "part_counts" s_part_counts a_part_counts fd_part_counts
  g_part_counts : mg "part_counts" = some (.ref a_part_counts)
  a__cuts : Addr
  fd__cuts : FuncData
  F__cuts : Fun K "_cuts" "_cuts" s__cuts a__cuts fd__cuts
  g__cuts : mg "_cuts" = some (.ref a__cuts)
  a_changes : Addr
  fd_changes : FuncData
  F_changes : Fun K "changes" "changes" s_changes a_changes fd_changes
  g_changes : mg "changes" = some (.ref a_changes)
  a__law_kept_right : Addr
  fd__law_kept_right : FuncData
  F__law_kept_right : Fun K "_law_kept_right" "_law_kept_right" s__law_kept_right a__law_kept_right fd__law_kept_right
  g__law_kept_right : mg "_law_kept_right" = some (.ref a__law_kept_right)
  a__law_normal : Addr
  fd__law_normal : FuncData
  F__law_normal : Fun K "_law_normal" "_law_normal" s__law_normal a__law_normal fd__law_normal
  g__law_normal : mg "_law_normal" = some (.ref a__law_normal)
  a__law_right : Addr
  fd__law_right : FuncData
  F__law_right : Fun K "_law_right" "_law_right" s__law_right a__law_right fd__law_right
  g__law_right : mg "_law_right" = some (.ref a__law_right)
  a__law_cell : Addr
  fd__law_cell : FuncData
  F__law_cell : Fun K "_law_cell" "_law_cell" s__law_cell a__law_cell fd__law_cell
  g__law_cell : mg "_law_cell" = some (.ref a__law_cell)
  a__law_generator : Addr
  fd__law_generator : FuncData
  F__law_generator : Fun K "_law_generator" "_law_generator" s__law_generator a__law_generator fd__law_generator
  g__law_generator : mg "_law_generator" = some (.ref a__law_generator)
  a_law : Addr
  fd_law : FuncData
  F_law : Fun K "law" "law" s_law a_law fd_law
  g_law : mg "law" = some (.ref a_law)
  C_Sum : Addr
  g_Sum : mg "Sum" = some (.ref C_Sum)
  cl_Sum : Cls K C_Sum
  mk_Sum : Mk K C_Sum a_Sum_init
  m_Sum_terms : Meth K C_Sum "terms" a_Sum_terms
  m_Sum_worth : Meth K C_Sum "worth" a_Sum_worth
  no_Sum__terms : NoAttr K C_Sum "_terms"
  ia_Sum : PySem.W.findIn K (.ref C_Sum) "__class__" = some (some (.builtin "object.__class__"))
  ib_Sum : PySem.W.specialIn K (.builtin "object.__class__") "__get__" = some (some (.builtin "getset_descriptor.__get__"))
  ic_Sum : PySem.W.takesIn K (.builtin "object.__class__") = some true
  id_Sum : PySem.W.mroIn K C_Sum (.type "object") = some true
  n_isinstance : mg "isinstance" = none
  n_tuple : mg "tuple" = none
  n_int : mg "int" = none
  n_range : mg "range" = none
  n_list : mg "list" = none
  n_sorted : mg "sorted" = none
  n_len : mg "len" = none
  n_sum : mg "sum" = none
  n_max : mg "max" = none
  n_bool : mg "bool" = none
  n_str : mg "str" = none
  n_min : mg "min" = none
section
variable {K : PySem.W.Frag} {mg : Str → Option Value}
theorem b__law_same (T : Tx K mg) : Binds K T.fd__law_same ["_law_told", "_law_due"] [] := T.F__law_same.binds fun _ _ _ _ _ _ us hl => match us, hl with | [_, _], _ => rfl
theorem b__law_hash (T : Tx K mg) : Binds K T.fd__law_hash ["_law_seed", "_law_index"] [] := T.F__law_hash.binds fun _ _ _ _ _ _ us hl => match us, hl with | [_, _], _ => rfl
theorem b__law_random (T : Tx K mg) : Binds K T.fd__law_random ["_law_generator_here", "_law_bound"] [] := T.F__law_random.binds fun _ _ _ _ _ _ us hl => match us, hl with | [_, _], _ => rfl
theorem b__law_signs (T : Tx K mg) : Binds K T.fd__law_signs ["_law_generator_here", "_law_many"] [] := T.F__law_signs.binds fun _ _ _ _ _ _ us hl => match us, hl with | [_, _], _ => rfl
theorem b__law_word (T : Tx K mg) : Binds K T.fd__law_word ["_law_generator_here", "_law_signs_here", "_law_least", "_law_most"] [] := T.F__law_word.binds fun _ _ _ _ _ _ us hl => match us, hl with | [_, _, _, _], _ => rfl
theorem b__law_number (T : Tx K mg) : Binds K T.fd__law_number ["_law_generator_here"] [] := T.F__law_number.binds fun _ _ _ _ _ _ us hl => match us, hl with | [_], _ => rfl
theorem b__law_terms (T : Tx K mg) : Binds K T.fd__law_terms ["_law_generator_here", "_law_signs_here", "_law_count_here", "_law_most"] [] := T.F__law_terms.binds fun _ _ _ _ _ _ us hl => match us, hl with | [_, _, _, _], _ => rfl
theorem b__law_all_texts (T : Tx K mg) : Binds K T.fd__law_all_texts ["_law_signs_here", "_law_depth"] [] := T.F__law_all_texts.binds fun _ _ _ _ _ _ us hl => match us, hl with | [_, _], _ => rfl
theorem b__law_drawn (T : Tx K mg) : Binds K T.fd__law_drawn ["_law_generator_here", "_law_signs_here"] [] := T.F__law_drawn.binds fun _ _ _ _ _ _ us hl => match us, hl with | [_, _], _ => rfl
theorem b__law_two_texts (T : Tx K mg) : Binds K T.fd__law_two_texts ["_law_generator_here", "_law_signs_here"] [] := T.F__law_two_texts.binds fun _ _ _ _ _ _ us hl => match us, hl with | [_, _], _ => rfl
theorem b__law_pairs (T : Tx K mg) : Binds K T.fd__law_pairs ["_law_signs_here", "_law_most"] [] := T.F__law_pairs.binds fun _ _ _ _ _ _ us hl => match us, hl with | [_, _], _ => rfl
theorem b__law_count (T : Tx K mg) : Binds K T.fd__law_count ["_law_word_here", "_law_text"] [] := T.F__law_count.binds fun _ _ _ _ _ _ us hl => match us, hl with | [_, _], _ => rfl
theorem b__law_worth (T : Tx K mg) : Binds K T.fd__law_worth ["_law_terms_here", "_law_text"] [] := T.F__law_worth.binds fun _ _ _ _ _ _ us hl => match us, hl with | [_, _], _ => rfl
theorem b__law_gap (T : Tx K mg) : Binds K T.fd__law_gap ["_law_terms_here", "_law_first", "_law_last", "_law_one", "_law_other"] [] := T.F__law_gap.binds fun _ _ _ _ _ _ us hl => match us, hl with | [_, _, _, _, _], _ => rfl
theorem b__law_first_pair (T : Tx K mg) : Binds K T.fd__law_first_pair ["_law_signs_here", "_law_terms_here", "_law_one", "_law_other"] [] := T.F__law_first_pair.binds fun _ _ _ _ _ _ us hl => match us, hl with | [_, _, _, _], _ => rfl
theorem b_Sum_terms (T : Tx K mg) : Binds K T.fd_Sum_terms ["self"] [] := T.F_Sum_terms.binds fun _ _ _ _ _ _ us hl => match us, hl with | [_], _ => rfl
theorem b__law_is_sum (T : Tx K mg) : Binds K T.fd__law_is_sum ["_law_told", "_law_due"] [] := T.F__law_is_sum.binds fun _ _ _ _ _ _ us hl => match us, hl with | [_, _], _ => rfl
theorem b_is_text (T : Tx K mg) : Binds K T.fd_is_text ["value"] [] := T.F_is_text.binds fun _ _ _ _ _ _ us hl => match us, hl with | [_], _ => rfl
theorem b_is_whole (T : Tx K mg) : Binds K T.fd_is_whole ["value"] [] := T.F_is_whole.binds fun _ _ _ _ _ _ us hl => match us, hl with | [_], _ => rfl
theorem b__are_terms (T : Tx K mg) : Binds K T.fd__are_terms ["value"] [] := T.F__are_terms.binds fun _ _ _ _ _ _ us hl => match us, hl with | [_], _ => rfl
theorem b_in_order (T : Tx K mg) : Binds K T.fd_in_order ["words"] [] := T.F_in_order.binds fun _ _ _ _ _ _ us hl => match us, hl with | [_], _ => rfl
theorem b_Sum_init (T : Tx K mg) : Binds K T.fd_Sum_init ["self", "terms"] [] := T.F_Sum_init.binds fun _ _ _ _ _ _ us hl => match us, hl with | [_, _], _ => rfl
theorem b_need_text (T : Tx K mg) : Binds K T.fd_need_text ["text"] [] := T.F_need_text.binds fun _ _ _ _ _ _ us hl => match us, hl with | [_], _ => rfl
theorem b__spots (T : Tx K mg) : Binds K T.fd__spots ["words"] [] := T.F__spots.binds fun _ _ _ _ _ _ us hl => match us, hl with | [_], _ => rfl
theorem b__steps (T : Tx K mg) : Binds K T.fd__steps ["spots"] [] := T.F__steps.binds fun _ _ _ _ _ _ us hl => match us, hl with | [_], _ => rfl
theorem b_beginning_counts (T : Tx K mg) : Binds K T.fd_beginning_counts ["words", "signs"] [] := T.F_beginning_counts.binds fun _ _ _ _ _ _ us hl => match us, hl with | [_, _], _ => rfl
theorem b_Sum_worth (T : Tx K mg) : Binds K T.fd_Sum_worth ["self", "text"] [] := T.F_Sum_worth.binds fun _ _ _ _ _ _ us hl => match us, hl with | [_, _], _ => rfl
theorem b_need_sum (T : Tx K mg) : Binds K T.fd_need_sum ["total"] [] := T.F_need_sum.binds fun _ _ _ _ _ _ us hl => match us, hl with | [_], _ => rfl
theorem b__first_pair (T : Tx K mg) : Binds K T.fd__first_pair ["pairs"] [] := T.F__first_pair.binds fun _ _ _ _ _ _ us hl => match us, hl with | [_], _ => rfl
theorem b_part_counts (T : Tx K mg) : Binds K T.fd_part_counts ["words", "text"] [] := T.F_part_counts.binds fun _ _ _ _ _ _ us hl => match us, hl with | [_, _], _ => rfl
theorem b__cuts (T : Tx K mg) : Binds K T.fd__cuts ["word"] [] := T.F__cuts.binds fun _ _ _ _ _ _ us hl => match us, hl with | [_], _ => rfl
theorem b_changes (T : Tx K mg) : Binds K T.fd_changes ["total", "one", "other"] [] := T.F_changes.binds fun _ _ _ _ _ _ us hl => match us, hl with | [_, _, _], _ => rfl
theorem b__law_kept_right (T : Tx K mg) : Binds K T.fd__law_kept_right ["_law_generator_here", "_law_signs_here", "_law_total", "_law_terms_here", "_law_one", "_law_other"] [] := T.F__law_kept_right.binds fun _ _ _ _ _ _ us hl => match us, hl with | [_, _, _, _, _, _], _ => rfl
theorem b__law_normal (T : Tx K mg) : Binds K T.fd__law_normal ["_law_terms_here"] [] := T.F__law_normal.binds fun _ _ _ _ _ _ us hl => match us, hl with | [_], _ => rfl
theorem b__law_right (T : Tx K mg) : Binds K T.fd__law_right ["_law_generator_here"] [] := T.F__law_right.binds fun _ _ _ _ _ _ us hl => match us, hl with | [_], _ => rfl
theorem b__law_cell (T : Tx K mg) : Binds K T.fd__law_cell ["_law_script", "_law_index"] [] := T.F__law_cell.binds fun _ _ _ _ _ _ us hl => match us, hl with | [_, _], _ => rfl
theorem b__law_generator (T : Tx K mg) : Binds K T.fd__law_generator ["_law_script", "_law_index"] [] := T.F__law_generator.binds fun _ _ _ _ _ _ us hl => match us, hl with | [_, _], _ => rfl
theorem b_law (T : Tx K mg) : Binds K T.fd_law ["_law_script"] [] := T.F_law.binds fun _ _ _ _ _ _ us hl => match us, hl with | [_], _ => rfl
end
end K15
set_option linter.all false
/-! Nx: readings by number: the mathematics, over lists of signs -/
namespace Nx
open Mx
theorem drop_at {t : List Nat} {p : Nat} (h : p < t.length) : t.drop p = t[p] :: t.drop (p + 1) := List.drop_eq_getElem_cons h
theorem back {t : List Nat} {p : Nat} (a : Nat) (u : List Nat) (h : p < t.length) : cnt (a :: u) (t.drop p) = cnt (a :: u) (t.drop (p + 1)) + if a = t[p] then cnt u (t.drop (p + 1)) else 0 := by
  rw [drop_at h, cnt_c]
/-- the reading with a number, from a place on -/
def rd : Nat → List Nat → List Nat → Nat → List Nat
  | _, [], _, _ => []
  | _, _ :: _, [], _ => []
  | p, a :: u, b :: s, k => if a = b then (if k < cnt u s then p :: rd (p + 1) u s k else rd (p + 1) (a :: u) s (k - cnt u s)) else rd (p + 1) (a :: u) s k
theorem rd_nil (p : Nat) (s : List Nat) (k : Nat) : rd p [] s k = [] := by cases s <;> simp [rd]
def isr (t : List Nat) : Nat → List Nat → List Nat → Prop
  | _, [], l => l = []
  | _, _ :: _, [] => False
  | lo, a :: u, q :: l => lo ≤ q ∧ t[q]? = some a ∧ isr t (q + 1) u l
theorem isr_low {t : List Nat} {lo lo' : Nat} (h : lo ≤ lo') : ∀ {w l : List Nat}, isr t lo' w l → isr t lo w l
  | [], _, i => i
  | _ :: _, [], i => i
  | _ :: _, _ :: _, ⟨a, b, c⟩ => ⟨Nat.le_trans h a, b, c⟩
theorem isr_len {t : List Nat} : ∀ {lo : Nat} {w l : List Nat}, isr t lo w l → l.length = w.length
  | _, [], _, i => by rw [i]
  | _, _ :: _, [], i => i.elim
  | _, _ :: _, _ :: _, ⟨_, _, c⟩ => by simp [isr_len c]
theorem isr_at {t : List Nat} : ∀ {lo : Nat} {w l : List Nat} {i q : Nat}, isr t lo w l → l[i]? = some q → lo ≤ q ∧ q < t.length ∧ t[q]? = w[i]?
  | _, [], _, i, q, h, e => by rw [h] at e; simp at e
  | _, _ :: _, [], _, _, h, _ => h.elim
  | lo, a :: u, x :: l, 0, q, ⟨h1, h2, _⟩, e => by
    simp at e
    subst e
    exact ⟨h1, (List.getElem?_eq_some_iff.mp h2).1, by simpa using h2⟩
  | lo, a :: u, x :: l, i + 1, q, ⟨h1, _, h3⟩, e => by
    have := isr_at h3 (by simpa using e)
    exact ⟨by omega, this.2.1, by simpa using this.2.2⟩
/-- places ascend -/
theorem isr_next {t : List Nat} : ∀ {lo : Nat} {w l : List Nat} {i q q' : Nat}, isr t lo w l → l[i]? = some q → l[i + 1]? = some q' → q + 1 ≤ q'
  | _, [], _, i, q, _, h, e, _ => by rw [h] at e; simp at e
  | _, _ :: _, [], _, _, _, h, _, _ => h.elim
  | lo, [a], x :: l, 0, q, q', ⟨_, _, h3⟩, e, e' => by
    have : l = [] := h3
    subst this
    simp at e'
  | lo, a :: b :: u, x :: [], 0, q, q', ⟨_, _, h3⟩, e, e' => by simp at e'
  | lo, a :: b :: u, x :: y :: l, 0, q, q', ⟨_, _, h3⟩, e, e' => by
    simp at e e'
    subst e e'
    exact h3.1
  | lo, a :: u, x :: l, i + 1, q, q', ⟨h1, _, h3⟩, e, e' => isr_next h3 (by simpa using e) (by simpa using e')
theorem rd_isr {t : List Nat} : ∀ (s : List Nat) (p : Nat) (w : List Nat) (k : Nat), t.drop p = s → k < cnt w s → isr t p w (rd p w s k)
  | s, p, [], k, _, _ => by rw [rd_nil]; rfl
  | [], p, a :: u, k, _, h => by rw [cnt_e] at h; omega
  | b :: s, p, a :: u, k, e, h => by
    have hp : p < t.length := by
      apply Decidable.byContradiction
      intro z
      rw [List.drop_eq_nil_of_le (by omega)] at e
      cases e
    have ed := drop_at hp
    rw [e] at ed
    injection ed with e1 e2
    have tb : t[p]? = some b := by rw [List.getElem?_eq_getElem hp, e1]
    rw [cnt_c] at h
    unfold rd
    by_cases hab : a = b
    · rw [if_pos hab] at h ⊢
      by_cases hk : k < cnt u s
      · rw [if_pos hk]
        exact ⟨Nat.le_refl _, by rw [tb, hab], rd_isr s (p + 1) u k e2.symm hk⟩
      · rw [if_neg hk]
        exact isr_low (Nat.le_succ p) (rd_isr s (p + 1) (a :: u) (k - cnt u s) e2.symm (by omega))
    · rw [if_neg hab] at h ⊢
      exact isr_low (Nat.le_succ p) (rd_isr s (p + 1) (a :: u) k e2.symm (by omega))
/-- what is left out between lo and lo + n -/
def gap (t : List Nat) (a : Nat) (u : List Nat) (lo n : Nat) : Nat := ((List.range n).map fun j => if t[lo + j]? = some a then cnt u (t.drop (lo + j + 1)) else 0).sum
theorem gap_zero (t : List Nat) (a : Nat) (u : List Nat) (lo : Nat) : gap t a u lo 0 = 0 := rfl
theorem gap_last (t : List Nat) (a : Nat) (u : List Nat) (lo n : Nat) : gap t a u lo (n + 1) = gap t a u lo n + if t[lo + n]? = some a then cnt u (t.drop (lo + n + 1)) else 0 := by
  unfold gap
  rw [List.range_succ, List.map_append, List.sum_append]
  simp
theorem gap_first (t : List Nat) (a : Nat) (u : List Nat) : ∀ (n lo : Nat), gap t a u lo (n + 1) = (if t[lo]? = some a then cnt u (t.drop (lo + 1)) else 0) + gap t a u (lo + 1) n
  | 0, lo => by
    rw [gap_last, gap_zero, gap_zero]
    simp
  | n + 1, lo => by
    rw [gap_last, gap_first t a u n lo, gap_last t a u (lo + 1) n]
    have e : lo + 1 + n = lo + (n + 1) := by omega
    rw [e, Nat.add_assoc]
def num (t : List Nat) : Nat → List Nat → List Nat → Nat
  | lo, a :: u, q :: l => gap t a u lo (q - lo) + num t (q + 1) u l
  | _, _, _ => 0
theorem num_nil (t : List Nat) (lo : Nat) (w : List Nat) : num t lo w [] = 0 := by cases w <;> rfl
theorem num_step {t : List Nat} {p a : Nat} {u : List Nat} : ∀ {l : List Nat}, isr t (p + 1) (a :: u) l → num t p (a :: u) l = (if t[p]? = some a then cnt u (t.drop (p + 1)) else 0) + num t (p + 1) (a :: u) l
  | [], h => h.elim
  | q :: l, ⟨h1, _, _⟩ => by
    show gap t a u p (q - p) + _ = _ + (gap t a u (p + 1) (q - (p + 1)) + _)
    have e : q - p = (q - (p + 1)) + 1 := by omega
    rw [e, gap_first]
    omega
theorem rd_num {t : List Nat} : ∀ (s : List Nat) (p : Nat) (w : List Nat) (k : Nat), t.drop p = s → k < cnt w s → num t p w (rd p w s k) = k
  | s, p, [], k, _, h => by
    rw [cnt_nil] at h
    rw [rd_nil, num_nil]
    omega
  | [], p, a :: u, k, _, h => by rw [cnt_e] at h; omega
  | b :: s, p, a :: u, k, e, h => by
    have hp : p < t.length := by
      apply Decidable.byContradiction
      intro z
      rw [List.drop_eq_nil_of_le (by omega)] at e
      cases e
    have ed := drop_at hp
    rw [e] at ed
    injection ed with e1 e2
    have tb : t[p]? = some b := by rw [List.getElem?_eq_getElem hp, e1]
    rw [cnt_c] at h
    unfold rd
    by_cases hab : a = b
    · rw [if_pos hab] at h ⊢
      by_cases hk : k < cnt u s
      · rw [if_pos hk]
        show gap t a u p (p - p) + num t (p + 1) u _ = k
        rw [Nat.sub_self, gap_zero, rd_num s (p + 1) u k e2.symm hk]
        omega
      · rw [if_neg hk, num_step (rd_isr s (p + 1) (a :: u) (k - cnt u s) e2.symm (by omega)), if_pos (by rw [tb, hab]), rd_num s (p + 1) (a :: u) (k - cnt u s) e2.symm (by omega), ← e2]
        omega
    · rw [if_neg hab] at h ⊢
      rw [num_step (rd_isr s (p + 1) (a :: u) k e2.symm (by omega)), if_neg (by rw [tb]; exact fun z => hab (Option.some.inj z).symm), rd_num s (p + 1) (a :: u) k e2.symm (by omega)]
      omega
/-- ahead in order -/
theorem rd_lt {t : List Nat} : ∀ (s : List Nat) (p : Nat) (w : List Nat) (k k' : Nat), t.drop p = s → k < k' → k' < cnt w s → rd p w s k < rd p w s k'
  | s, p, [], k, k', _, h, h' => by rw [cnt_nil] at h'; omega
  | [], p, a :: u, k, k', _, h, h' => by rw [cnt_e] at h'; omega
  | b :: s, p, a :: u, k, k', e, h, h' => by
    have hp : p < t.length := by
      apply Decidable.byContradiction
      intro z
      rw [List.drop_eq_nil_of_le (by omega)] at e
      cases e
    have ed := drop_at hp
    rw [e] at ed
    injection ed with e1 e2
    rw [cnt_c] at h'
    unfold rd
    by_cases hab : a = b
    · rw [if_pos hab] at h'
      rw [if_pos hab, if_pos hab]
      by_cases hk : k < cnt u s
      · rw [if_pos hk]
        by_cases hk' : k' < cnt u s
        · rw [if_pos hk']
          exact List.cons_lt_cons_self.mpr (rd_lt s (p + 1) u k k' e2.symm h hk')
        · rw [if_neg hk']
          have i := rd_isr s (p + 1) (a :: u) (k' - cnt u s) e2.symm (by omega)
          match hr : rd (p + 1) (a :: u) s (k' - cnt u s), i with
          | [], i => exact i.elim
          | q :: l, i =>
            exact List.Lex.rel (by have := i.1; omega)
      · rw [if_neg hk, if_neg (by omega)]
        exact rd_lt s (p + 1) (a :: u) (k - cnt u s) (k' - cnt u s) e2.symm (by omega) (by omega)
    · rw [if_neg hab] at h'
      rw [if_neg hab, if_neg hab]
      exact rd_lt s (p + 1) (a :: u) k k' e2.symm h (by omega)

/-! ### how many readings have a place -/
theorem at_letter : ∀ (t x y : List Nat) (a : Nat), ((List.range t.length).map fun q => if t[q]? = some a then cnt x (t.take q) * cnt y (t.drop (q + 1)) else 0).sum = cnt (x ++ a :: y) t
  | [], x, y, a => by
    rw [cnt_empty _ (by simp)]
    rfl
  | b :: t, [], y, a => by
    rw [List.length_cons, List.range_succ_eq_map, List.map_cons, List.sum_cons, List.map_map]
    have ih := at_letter t [] y a
    rw [List.nil_append] at ih ⊢
    rw [cnt_c, ← ih]
    have e : ((fun q => if (b :: t)[q]? = some a then cnt [] ((b :: t).take q) * cnt y ((b :: t).drop (q + 1)) else 0) ∘ Nat.succ) = fun q => if t[q]? = some a then cnt [] (t.take q) * cnt y (t.drop (q + 1)) else 0 := by
      funext q
      simp [cnt_nil]
    rw [e]
    simp only [List.getElem?_cons_zero, Option.some.injEq, List.take_zero, cnt_nil, Nat.one_mul, List.drop_succ_cons, List.drop_zero]
    by_cases h : a = b
    · rw [if_pos h, if_pos h.symm]; omega
    · rw [if_neg h, if_neg (fun z => h z.symm)]; omega
  | b :: t, c :: x, y, a => by
    rw [List.length_cons, List.range_succ_eq_map, List.map_cons, List.sum_cons, List.map_map]
    have i1 := at_letter t (c :: x) y a
    have i2 := at_letter t x y a
    have e0 : (if (b :: t)[0]? = some a then cnt (c :: x) ((b :: t).take 0) * cnt y ((b :: t).drop (0 + 1)) else 0) = 0 := by
      simp [cnt_e]
    have e : ((fun q => if (b :: t)[q]? = some a then cnt (c :: x) ((b :: t).take q) * cnt y ((b :: t).drop (q + 1)) else 0) ∘ Nat.succ) = fun q => (if t[q]? = some a then cnt (c :: x) (t.take q) * cnt y (t.drop (q + 1)) else 0) + (if c = b then (if t[q]? = some a then cnt x (t.take q) * cnt y (t.drop (q + 1)) else 0) else 0) := by
      funext q
      show (if t[q]? = some a then cnt (c :: x) (b :: t.take q) * cnt y (t.drop (q + 1)) else 0) = _
      by_cases h1 : t[q]? = some a
      · rw [if_pos h1, if_pos h1, if_pos h1, cnt_c, Nat.add_mul]
        by_cases h2 : c = b
        · rw [if_pos h2, if_pos h2]
        · rw [if_neg h2, if_neg h2, Nat.zero_mul]
      · rw [if_neg h1, if_neg h1, if_neg h1]
        split <;> rfl
    rw [e0, e, sum_map_add, i1, List.cons_append, cnt_c, Nat.zero_add]
    by_cases h2 : c = b
    · simp only [if_pos h2]
      rw [i2]
    · simp only [if_neg h2]
      rw [sum_map_zero]
theorem sum_swap (f : Nat → Nat → Nat) (n : Nat) : ∀ m : Nat, ((List.range m).map fun q => ((List.range n).map fun i => f q i).sum).sum = ((List.range n).map fun i => ((List.range m).map fun q => f q i).sum).sum
  | 0 => by
    have e : (fun i => ((List.range 0).map fun q => f q i).sum) = fun _ : Nat => 0 := rfl
    rw [e, sum_map_zero]
    rfl
  | m + 1 => by
    rw [List.range_succ, List.map_append, List.sum_append, sum_swap f n m]
    have e : (fun i => ((List.range m ++ [m]).map fun q => f q i).sum) = fun i => ((List.range m).map fun q => f q i).sum + f m i := by
      funext i
      rw [List.map_append, List.sum_append]
      simp
    rw [e, sum_map_add]
    simp
/-- of the word w in t: at the place q, by the letter i -/
def us (w t : List Nat) (q i : Nat) : Nat := if w[i]? = t[q]? then cnt (w.take i) (t.take q) * cnt (w.drop (i + 1)) (t.drop (q + 1)) else 0
def used (w t : List Nat) (q : Nat) : Nat := ((List.range w.length).map fun i => us w t q i).sum
theorem map_sum_congr {f g : Nat → Nat} {n : Nat} (h : ∀ i, i < n → f i = g i) : ((List.range n).map f).sum = ((List.range n).map g).sum := by
  congr 1
  apply List.map_congr_left
  intro i hi
  exact h i (List.mem_range.mp hi)
theorem sum_const (c : Nat) : ∀ n : Nat, ((List.range n).map fun _ => c).sum = n * c
  | 0 => by simp
  | n + 1 => by
    rw [List.range_succ, List.map_append, List.sum_append, sum_const c n, Nat.add_mul]
    simp
theorem used_all (w t : List Nat) : ((List.range t.length).map fun q => used w t q).sum = w.length * cnt w t := by
  unfold used
  rw [sum_swap (fun q i => us w t q i) w.length t.length]
  have e : ∀ i, i < w.length → ((List.range t.length).map fun q => us w t q i).sum = cnt w t := by
    intro i hi
    have h := at_letter t (w.take i) (w.drop (i + 1)) w[i]
    have ew : w.take i ++ w[i] :: w.drop (i + 1) = w := by rw [← List.drop_eq_getElem_cons hi, List.take_append_drop]
    rw [ew] at h
    rw [← h]
    apply map_sum_congr
    intro q hq
    unfold us
    rw [List.getElem?_eq_getElem hi]
    by_cases z : t[q]? = some w[i]
    · rw [if_pos z, if_pos z.symm]
    · rw [if_neg z, if_neg (fun y => z y.symm)]
  rw [map_sum_congr e, sum_const]

/-! ### choices -/
def ch (a n k : Nat) : Nat := cnt (List.replicate k a) (List.replicate n a)
theorem ch_zero (a n : Nat) : ch a n 0 = 1 := by
  show cnt [] _ = 1
  exact cnt_nil _
theorem ch_none (a k : Nat) : ch a 0 (k + 1) = 0 := rfl
theorem ch_step (a n k : Nat) : ch a (n + 1) (k + 1) = ch a n (k + 1) + ch a n k := by
  unfold ch
  rw [List.replicate_succ, List.replicate_succ, cnt_c, if_pos rfl]
theorem ch_big (a : Nat) : ∀ (n k : Nat), n < k → ch a n k = 0
  | 0, k + 1, _ => rfl
  | n + 1, k + 1, h => by rw [ch_step, ch_big a n (k + 1) (by omega), ch_big a n k (by omega)]
theorem ch_mul (a : Nat) : ∀ (n k : Nat), ch a n (k + 1) * (k + 1) = ch a n k * (n - k)
  | 0, k => by rw [ch_none]; simp
  | n + 1, 0 => by
    have ih := ch_mul a n 0
    rw [ch_zero] at ih ⊢
    rw [ch_step, ch_zero]
    simp at ih ⊢
    omega
  | n + 1, k + 1 => by
    have i1 := ch_mul a n (k + 1)
    have i2 := ch_mul a n k
    rw [ch_step, ch_step a n k, Nat.add_mul, Nat.add_mul]
    rw [i1]
    by_cases h : k < n
    · have e1 : n - (k + 1) = (n - k) - 1 := by omega
      have e2 : n + 1 - (k + 1) = n - k := by omega
      rw [e2, ← i2]
      have e3 : ch a n (k + 1) * (n - (k + 1)) + ch a n (k + 1) * (k + 1 + 1) = ch a n (k + 1) * (n - k) + ch a n (k + 1) * (k + 1) := by
        rw [← Nat.mul_add, ← Nat.mul_add]
        congr 1
        omega
      rw [e3]
    · have z1 : ch a n (k + 1) = 0 := ch_big a n (k + 1) (by omega)
      have e2 : n + 1 - (k + 1) = n - k := by omega
      rw [z1, e2, ← i2, z1]
      simp
theorem ch_next (a n k : Nat) : ((ch a n k : Nat) : Int) * ((n : Int) - k) / ((k : Int) + 1) = ((ch a n (k + 1) : Nat) : Int) := by
  have e : ((ch a n k : Nat) : Int) * ((n : Int) - k) = ((ch a n (k + 1) : Nat) : Int) * ((k : Int) + 1) := by
    have h := ch_mul a n k
    by_cases hk : k ≤ n
    · have : ((n - k : Nat) : Int) = (n : Int) - k := by omega
      rw [← this]
      have h2 : ((ch a n (k + 1) * (k + 1) : Nat) : Int) = ((ch a n k * (n - k) : Nat) : Int) := by rw [h]
      rw [Int.natCast_mul, Int.natCast_mul] at h2
      rw [← h2]
      rfl
    · rw [ch_big a n k (by omega), ch_big a n (k + 1) (by omega)]
      simp
  rw [e]
  exact Int.mul_ediv_cancel _ (by omega)
theorem cnt_lone (b : Nat) : ∀ (h m : Nat) , cnt (List.replicate m b) (List.replicate h b) = ch b h m := fun _ _ => rfl
theorem cnt_not {a : Nat} (u : List Nat) : ∀ (t : List Nat), a ∉ t → cnt (a :: u) t = 0
  | [], _ => rfl
  | b :: t, h => by
    rw [cnt_c, cnt_not u t (fun z => h (List.mem_cons_of_mem _ z)), if_neg (fun z => h (by rw [z]; exact List.mem_cons_self))]
theorem cnt_runs {a b : Nat} (hab : a ≠ b) (h m : Nat) : ∀ (l s : Nat), cnt (List.replicate s a ++ List.replicate m b) (List.replicate l a ++ List.replicate h b) = ch a l s * ch b h m
  | 0, 0 => by rw [ch_zero, Nat.one_mul]; rfl
  | 0, s + 1 => by
    rw [ch_none, Nat.zero_mul]
    exact cnt_not _ _ (fun z => hab (List.eq_of_mem_replicate z))
  | l + 1, 0 => by
    have ih := cnt_runs hab h m l 0
    rw [ch_zero] at ih ⊢
    rw [← ih]
    show cnt (List.replicate m b) (a :: (List.replicate l a ++ List.replicate h b)) = cnt (List.replicate m b) (List.replicate l a ++ List.replicate h b)
    cases m with
    | zero => rw [List.replicate_zero, cnt_nil, cnt_nil]
    | succ m => rw [List.replicate_succ, cnt_c, if_neg (fun z => hab z.symm), Nat.add_zero]
  | l + 1, s + 1 => by
    have i1 := cnt_runs hab h m l (s + 1)
    have i2 := cnt_runs hab h m l s
    rw [ch_step, Nat.add_mul, ← i1, ← i2]
    show cnt (a :: (List.replicate s a ++ List.replicate m b)) (a :: (List.replicate l a ++ List.replicate h b)) = _
    rw [cnt_c, if_pos rfl]
    rfl
end Nx
set_option linter.all false
/-! Px: powers: the greatest exponent, the number of a text -/
namespace Px
/-- the number of a text over an alphabet of m letters, by the places of its letters -/
def num (m : Nat) : List Nat → Nat → Nat
  | [], f => f
  | i :: l, f => num m l (f * m + i + 1)
theorem num_snoc (m i : Nat) : ∀ (l : List Nat) (f : Nat), num m (l ++ [i]) f = num m l f * m + i + 1
  | [], f => rfl
  | j :: l, f => num_snoc m i l (f * m + j + 1)
/-- how many texts are shorter -/
def less (m : Nat) : Nat → Nat
  | 0 => 0
  | k + 1 => less m k * m + 1
theorem less_pow (m : Nat) (hm : 1 ≤ m) : ∀ k, less m k * (m - 1) + 1 = m ^ k
  | 0 => by simp [less]
  | k + 1 => by
    have ih := less_pow m hm k
    show (less m k * m + 1) * (m - 1) + 1 = m ^ (k + 1)
    rw [Nat.pow_succ, ← ih, Nat.add_mul, Nat.add_mul, Nat.one_mul, Nat.one_mul, Nat.mul_right_comm]
    omega
theorem num_low (m : Nat) : ∀ (l : List Nat) (f k : Nat), less m k ≤ f → less m (k + l.length) ≤ num m l f
  | [], f, k, h => h
  | i :: l, f, k, h => by
    have h2 : less m (k + 1) ≤ f * m + i + 1 := by
      show less m k * m + 1 ≤ _
      have := Nat.mul_le_mul_right m h
      omega
    have := num_low m l (f * m + i + 1) (k + 1) h2
    have e : k + 1 + l.length = k + (i :: l).length := by rw [List.length_cons]; omega
    rw [e] at this
    exact this
theorem num_high (m : Nat) : ∀ (l : List Nat) (f k : Nat), (∀ i ∈ l, i < m) → f < less m (k + 1) → num m l f < less m (k + l.length + 1)
  | [], f, k, _, h => h
  | i :: l, f, k, hi, h => by
    have h2 : f * m + i + 1 < less m (k + 1 + 1) := by
      show _ < less m (k + 1) * m + 1
      have h3 := hi i List.mem_cons_self
      have h4 : (f + 1) * m ≤ less m (k + 1) * m := Nat.mul_le_mul_right m h
      rw [Nat.add_mul, Nat.one_mul] at h4
      omega
    have := num_high m l (f * m + i + 1) (k + 1) (fun j hj => hi j (List.mem_cons_of_mem _ hj)) h2
    have e : k + 1 + l.length + 1 = k + (i :: l).length + 1 := by rw [List.length_cons]; omega
    rw [e] at this
    exact this
/-- the number of a text of k letters lies between powers -/
theorem num_between {m : Nat} (hm : 1 ≤ m) {l : List Nat} (hl : ∀ i ∈ l, i < m) : m ^ l.length ≤ num m l 0 * (m - 1) + 1 ∧ (2 ≤ m → num m l 0 * (m - 1) + 1 < m ^ (l.length + 1)) := by
  have h1 := num_low m l 0 0 (Nat.le_refl _)
  have h2 := num_high m l 0 0 hl (by show 0 < 0 * m + 1; omega)
  rw [Nat.zero_add] at h1 h2
  constructor
  · rw [← less_pow m hm]
    have := Nat.mul_le_mul_right (m - 1) h1
    omega
  · intro h
    rw [← less_pow m hm]
    have : (num m l 0 + 1) * (m - 1) ≤ less m (l.length + 1) * (m - 1) := Nat.mul_le_mul_right (m - 1) h2
    rw [Nat.add_mul, Nat.one_mul] at this
    omega
/-- greatest exponents, by steps -/
theorem pow_le_iff {b x y : Nat} (hb : 2 ≤ b) (h : b ^ x < b ^ y) : x < y := (Nat.pow_lt_pow_iff_right hb).mp h
/-- e is the greatest exponent -/
def Gre (b n e : Nat) : Prop := b ^ e ≤ n ∧ n < b ^ (e + 1)
theorem gre_one {b n e e' : Nat} (hb : 2 ≤ b) (h : Gre b n e) (h' : Gre b n e') : e = e' := by
  have a1 := pow_le_iff hb (Nat.lt_of_le_of_lt h.1 h'.2)
  have a2 := pow_le_iff hb (Nat.lt_of_le_of_lt h'.1 h.2)
  omega
/-- a step of the search: reached = b ^ e, what is left is below 2 ^ (at + 1) more -/
theorem gre_step {b n e k : Nat} (h1 : b ^ e ≤ n) (h2 : n < b ^ (e + 2 ^ (k + 1))) :
    (b ^ e * b ^ 2 ^ k ≤ n → b ^ (e + 2 ^ k) ≤ n ∧ n < b ^ (e + 2 ^ k + 2 ^ k)) ∧ (¬ b ^ e * b ^ 2 ^ k ≤ n → n < b ^ (e + 2 ^ k)) := by
  rw [← Nat.pow_add]
  refine ⟨fun h => ⟨h, ?_⟩, fun h => by omega⟩
  have e2 : e + 2 ^ k + 2 ^ k = e + 2 ^ (k + 1) := by rw [Nat.pow_succ]; omega
  rw [e2]
  exact h2
/-- the text of a number, from its end -/
theorem num_back {m : Nat} {l : List Nat} {i : Nat} (hi : i < m) : num m (l ++ [i]) 0 - 1 = num m l 0 * m + i ∧ (num m (l ++ [i]) 0 - 1) % m = i ∧ (num m (l ++ [i]) 0 - 1) / m = num m l 0 := by
  rw [num_snoc]
  have e : num m l 0 * m + i + 1 - 1 = num m l 0 * m + i := by omega
  rw [e]
  refine ⟨rfl, ?_, ?_⟩
  · rw [Nat.mul_comm, Nat.mul_add_mod, Nat.mod_eq_of_lt hi]
  · rw [Nat.mul_comm, Nat.mul_add_div (by omega), Nat.div_eq_of_lt hi]
    omega
end Px
namespace Px
theorem halves (f s l : Nat) : (if l % 2 = 1 then f * s else f) * (s * s) ^ (l / 2) = f * s ^ l := by
  have e : (s * s) ^ (l / 2) = s ^ (2 * (l / 2)) := by rw [Nat.pow_mul, Nat.pow_two]
  rw [e]
  by_cases h : l % 2 = 1
  · rw [if_pos h, Nat.mul_assoc, ← Nat.pow_succ']
    congr 2
    omega
  · rw [if_neg h]
    congr 2
    omega
theorem halves' (f s l : Nat) : (if l % 2 = 1 then f * s else f) * (if 0 < l / 2 then s * s else s) ^ (l / 2) = f * s ^ l := by
  rw [← halves f s l]
  by_cases h : 0 < l / 2
  · rw [if_pos h]
  · have z : l / 2 = 0 := by omega
    rw [z, Nat.pow_zero, Nat.pow_zero]
end Px
namespace Px
theorem num_one : ∀ (l : List Nat) (f : Nat), (∀ i ∈ l, i < 1) → num 1 l f = f + l.length
  | [], f, _ => rfl
  | i :: l, f, h => by
    have h0 := h i List.mem_cons_self
    show num 1 l (f * 1 + i + 1) = _
    rw [num_one l _ fun j hj => h j (List.mem_cons_of_mem _ hj), List.length_cons]
    omega
theorem num_le {m : Nat} (hm : m ≤ 4) : ∀ (l : List Nat) (f : Nat), (∀ i ∈ l, i < m) → num m l f + 1 ≤ (f + 1) * 8 ^ l.length
  | [], f, _ => by simp [num]
  | i :: l, f, h => by
    have h0 := h i List.mem_cons_self
    have ih := num_le hm l (f * m + i + 1) fun j hj => h j (List.mem_cons_of_mem _ hj)
    show num m l (f * m + i + 1) + 1 ≤ _
    refine Nat.le_trans ih ?_
    rw [List.length_cons, Nat.pow_succ, Nat.mul_comm (8 ^ l.length) 8, ← Nat.mul_assoc]
    refine Nat.mul_le_mul_right _ ?_
    have : f * m ≤ f * 4 := Nat.mul_le_mul_left f hm
    omega
theorem num_big {m : Nat} (hm : m ≤ 4) {l : List Nat} (h : ∀ i ∈ l, i < m) (hl : l.length ≤ 310) : num m l 0 < 2 ^ 990 := by
  have h1 := num_le hm l 0 h
  have h2 : (8 : Nat) ^ l.length ≤ 8 ^ 310 := Nat.pow_le_pow_right (by decide) hl
  have h3 : (8 : Nat) ^ 310 < 2 ^ 990 := by decide +kernel
  omega
theorem num_pos {m : Nat} : ∀ (l : List Nat) (f : Nat), 0 < f ∨ l ≠ [] → 0 < num m l f
  | [], f, h => by
    rcases h with h | h
    · exact h
    · exact absurd rfl h
  | i :: l, f, _ => num_pos l _ (.inl (by omega))
end Px
set_option Elab.async false
set_option linter.all false
set_option maxRecDepth 100000
set_option maxHeartbeats 4000000
/-! Tm2: words put in order; the beginnings of words -/
namespace Tm
open Mx
/-- sorted(sorted(words), key=len) -/
def ord (ws : List Wd) : List Wd := (ws.mergeSort fun a b => decide (a ≤ b)).mergeSort fun a b => decide (a.length ≤ b.length)
theorem ord_perm (ws : List Wd) : (ord ws).Perm ws := (List.mergeSort_perm _ _).trans (List.mergeSort_perm _ _)
theorem ord_mem {ws : List Wd} {w : Wd} : w ∈ ord ws ↔ w ∈ ws := (ord_perm ws).mem_iff
theorem ord_len (ws : List Wd) : (ord ws).length = ws.length := (ord_perm ws).length_eq
theorem two_sub {α : Type} {a b : α} (n : a ≠ b) : ∀ {l : List α}, a ∈ l → b ∈ l → [a, b].Sublist l ∨ [b, a].Sublist l
  | [], h, _ => by cases h
  | x :: l, ha, hb => by
    by_cases xa : x = a
    · subst xa
      rcases List.mem_cons.mp hb with z | z
      · exact absurd z.symm n
      · exact .inl ((List.singleton_sublist.mpr z).cons_cons x)
    · by_cases xb : x = b
      · subst xb
        rcases List.mem_cons.mp ha with z | z
        · exact absurd z n
        · exact .inr ((List.singleton_sublist.mpr z).cons_cons x)
      · rcases two_sub n ((List.mem_cons.mp ha).resolve_left fun z => xa z.symm) ((List.mem_cons.mp hb).resolve_left fun z => xb z.symm) with z | z
        · exact .inl (z.cons x)
        · exact .inr (z.cons x)
theorem not_both {α : Type} {a b : α} : ∀ {l : List α}, l.Nodup → [a, b].Sublist l → [b, a].Sublist l → False
  | [], _, h, _ => by cases h
  | x :: l, nd, h, h' => by
    have nx := (List.nodup_cons.mp nd).1
    have nl := (List.nodup_cons.mp nd).2
    cases h with
    | cons _ h1 =>
      cases h' with
      | cons _ h2 => exact not_both nl h1 h2
      | cons_cons _ h2 => exact nx (h1.subset (by simp))
    | cons_cons _ h1 =>
      cases h' with
      | cons _ h2 => exact nx (h2.subset (by simp))
      | cons_cons _ h2 => exact nx (List.singleton_sublist.mp h1)
theorem le_cases {a b : Wd} (h : a ≤ b) (n : a ≠ b) : a < b := by
  rcases lt_tri a b with z | z | z
  · exact z
  · exact absurd z n
  · exact absurd z (List.not_lt.mpr h)
theorem ord_wlt {ws : List Wd} (h : ws.Nodup) : (ord ws).Pairwise wlt := by
  have n1 : (ws.mergeSort fun a b => decide (a ≤ b)).Nodup := (List.mergeSort_perm _ _).nodup_iff.mpr h
  have lr : ∀ a b c : Wd, decide (a ≤ b) = true → decide (b ≤ c) = true → decide (a ≤ c) = true := fun a b c h h' => decide_eq_true (List.le_trans (of_decide_eq_true h) (of_decide_eq_true h'))
  have lt : ∀ a b : Wd, (decide (a ≤ b) || decide (b ≤ a)) = true := fun a b => by
    rcases List.le_total a b with z | z
    · rw [decide_eq_true z]; rfl
    · rw [decide_eq_true z, Bool.or_true]
  have s1 := List.pairwise_mergeSort lr lt ws
  have tr : ∀ a b c : Wd, decide (a.length ≤ b.length) = true → decide (b.length ≤ c.length) = true → decide (a.length ≤ c.length) = true := fun a b c h h' => by
    have := of_decide_eq_true h
    have := of_decide_eq_true h'
    exact decide_eq_true (by omega)
  have tt : ∀ a b : Wd, (decide (a.length ≤ b.length) || decide (b.length ≤ a.length)) = true := fun a b => by
    by_cases z : a.length ≤ b.length
    · rw [decide_eq_true z]; rfl
    · rw [decide_eq_true (by omega : b.length ≤ a.length), Bool.or_true]
  have s2 := List.pairwise_mergeSort tr tt (ws.mergeSort fun a b => decide (a ≤ b))
  have n2 : (ord ws).Nodup := (ord_perm ws).nodup_iff.mpr h
  refine List.pairwise_iff_forall_sublist.mpr fun {a b} hab => ?_
  have hl := of_decide_eq_true (List.pairwise_iff_forall_sublist.mp s2 hab)
  have ne : a ≠ b := fun z => by
    subst z
    have := hab.nodup n2
    simp at this
  rcases Nat.lt_or_eq_of_le hl with z | z
  · exact .inl z
  · refine .inr ⟨z, ?_⟩
    have ma : a ∈ ws.mergeSort fun a b => decide (a ≤ b) := (List.mergeSort_perm _ _).mem_iff.mp (hab.subset (by simp))
    have mb : b ∈ ws.mergeSort fun a b => decide (a ≤ b) := (List.mergeSort_perm _ _).mem_iff.mp (hab.subset (by simp))
    rcases two_sub ne ma mb with q | q
    · exact le_cases (of_decide_eq_true (List.pairwise_iff_forall_sublist.mp s1 q)) ne
    · exact (not_both n2 hab (List.pair_sublist_mergeSort tr tt (decide_eq_true (by omega)) q)).elim
/-- distinct words, put in order, with their numbers but for 0 -/
theorem ord_nf {ws : List Wd} {ts : Terms} (h : ws.Nodup) (hw : ∀ e ∈ ts, e.1 ∈ ws) : ((ord ws).filterMap fun w => if tot ts w = 0 then none else some (w, tot ts w)) = nf ts := by
  have key : ∀ (l : List Wd), l.Pairwise wlt → ((l.filterMap fun w => if tot ts w = 0 then none else some (w, tot ts w)).map (·.1)).Sublist l ∧ (∀ e ∈ l.filterMap (fun w => if tot ts w = 0 then none else some (w, tot ts w)), e.2 = tot ts e.1 ∧ e.2 ≠ 0) := by
    intro l hl
    induction l with
    | nil => exact ⟨List.Sublist.refl _, fun e he => by cases he⟩
    | cons x r ih =>
      have ⟨i1, i2⟩ := ih (List.pairwise_cons.mp hl).2
      by_cases z : tot ts x = 0
      · rw [List.filterMap_cons_none (by rw [if_pos z])]
        exact ⟨i1.cons x, i2⟩
      · rw [List.filterMap_cons_some (by rw [if_neg z])]
        refine ⟨i1.cons_cons x, fun e he => ?_⟩
        rcases List.mem_cons.mp he with q | q
        · rw [q]
          exact ⟨rfl, z⟩
        · exact i2 e q
  obtain ⟨k1, k2⟩ := key _ (ord_wlt h)
  have hN : Nf ((ord ws).filterMap fun w => if tot ts w = 0 then none else some (w, tot ts w)) := ⟨(ord_wlt h).sublist k1, fun e he => (k2 e he).2⟩
  refine nf_eq hN fun w => ?_
  by_cases z : tot ts w = 0
  · rw [z]
    refine tot_none fun e he q => ?_
    have := k2 e he
    rw [q, z] at this
    exact this.2 this.1
  · obtain ⟨e, he, q⟩ := Nf.mem_tot z
    have : (w, tot ts w) ∈ (ord ws).filterMap fun w => if tot ts w = 0 then none else some (w, tot ts w) := List.mem_filterMap.mpr ⟨w, ord_mem.mpr (q ▸ hw e he), by rw [if_neg z]⟩
    exact hN.tot_mem _ this
end Tm
set_option Elab.async false
set_option linter.all false
set_option maxRecDepth 100000
set_option maxHeartbeats 4000000
namespace K15
open PySem PySem.Spec PyProof.Rows L2 Evl Bx
section
variable {P : Program} {w : World} {K : PySem.W.Frag} {mg : Str → Option Value} {base : Heap}
/-! ### texts -/
def sp_is_text (K : PySem.W.Frag) : Sp := fun vs H Q _ => ∃ l, vs = [tx l] ∧ Low l ∧ Q (.bl true) H
theorem ok_is_text (T : Tx K mg) : FnOk P w K mg base CX0 1 T.a_is_text T.fd_is_text ["value"] (sp_is_text K) := by
  refine T.F_is_text.ok sc_is_text (fun vs H Q E h => ?_) (fun cdv A outer s H vs Q E hr h => ?_)
  · obtain ⟨l, rfl, _⟩ := h
    rfl
  · obtain ⟨l, rfl, hl, q⟩ := h
    refine ⟨_, (pss_cons (ps_if (pt_not (pt_val (pe_callB call_isi (by rfl) T.n_isinstance (by decide +kernel) (pa_cons (pv 0) (pa_cons (pe_bltn (v := .ty "str") (u := .type "str") (by rfl) T.n_str (by decide +kernel) rfl) pa_nil))))) (pss_one (ps_ret pe_bl)) pss_nil) (pss_one (ps_ret (pe_or (pe_cmpR op_eq (pv 0) pe_str (nomark _)) (pe_one (pe_and (pe_m0 PySem.F.slot_str_isascii PySem.F.type_str_isascii mt_isascii (pv 0)) (pe_and (pe_m0 PySem.F.slot_str_isalpha PySem.F.type_str_isalpha mt_isalpha (pv 0)) (pe_one (pe_m0 PySem.F.slot_str_islower PySem.F.type_str_islower mt_islower (pv 0)))))))))), ?_⟩
    refine ⟨_, rfl, _, _, .type "str", _, true, rfl, .ty _, .base (.str _), kit_ty (by decide +kernel), true, rfl, iteF ?_⟩
    refine ⟨_, rfl, rfl, _, rfl, ?_⟩
    by_cases n : l = []
    · subst n
      rw [if_pos (by rfl)]
      exact q
    · have ne : decide (tx l = V.str (PySem.Str.ofString "")) = false := decide_eq_false fun z => n ((tx_inj (l := l) (m := [])).mp (z.trans (by rfl)))
      rw [ne]
      refine iteF ?_
      have a1 := low_ascii hl
      have a2 := low_alpha hl n
      have a3 := low_lower hl n
      refine ⟨_, rfl, ⟨_, rfl⟩, _, rfl, rfl, trivial, _, rfl, ?_⟩
      rw [a1]
      refine iteT ⟨_, rfl, ⟨_, rfl⟩, _, rfl, rfl, trivial, _, rfl, ?_⟩
      rw [a2]
      refine iteT ⟨_, rfl, ⟨_, rfl⟩, _, rfl, rfl, trivial, ?_⟩
      rw [a3]
      exact q
def sp_need (K : PySem.W.Frag) : Sp := fun vs H Q _ => ∃ l, vs = [tx l] ∧ Low l ∧ Q .non H
theorem ok_need_text (T : Tx K mg) : FnOk P w K mg base CX0 2 T.a_need_text T.fd_need_text ["text"] (sp_need K) := by
  refine T.F_need_text.ok sc_need_text (fun vs H Q E h => ?_) (fun cdv A outer s H vs Q E hr h => ?_)
  · obtain ⟨l, rfl, _⟩ := h
    rfl
  · obtain ⟨l, rfl, hl, q⟩ := h
    refine ⟨_, (pss_one (ps_if (pt_not (pt_val (pe_call (ok_is_text T) (hr.mono (by decide)) (by rfl) T.g_is_text T.F_is_text.kp (b_is_text T) .nil pass0 (pa_cons (pv 0) pa_nil)))) (pss_one ps_never) pss_nil)), ?_⟩
    exact ⟨_, rfl, l, rfl, hl, true, rfl, iteF q⟩
def sp_is_whole (K : PySem.W.Frag) : Sp := fun vs H Q _ => ∃ i : Int, vs = [.int i] ∧ Q (.bl true) H
theorem ok_is_whole (T : Tx K mg) : FnOk P w K mg base CX0 1 T.a_is_whole T.fd_is_whole ["value"] (sp_is_whole K) := by
  refine T.F_is_whole.ok sc_is_whole (fun vs H Q E h => ?_) (fun cdv A outer s H vs Q E hr h => ?_)
  · obtain ⟨l, rfl, _⟩ := h
    rfl
  · obtain ⟨i, rfl, q⟩ := h
    refine ⟨_, (pss_one (ps_ret (pe_and (pe_callB call_isi (by rfl) T.n_isinstance (by decide +kernel) (pa_cons (pv 0) (pa_cons (pe_bltn (v := .ty "int") (u := .type "int") (by rfl) T.n_int (by decide +kernel) rfl) pa_nil))) (pe_one (pe_not (pe_callB call_isi (by rfl) T.n_isinstance (by decide +kernel) (pa_cons (pv 0) (pa_cons (pe_bltn (v := .ty "bool") (u := .type "bool") (by rfl) T.n_bool (by decide +kernel) rfl) pa_nil)))))))), ?_⟩
    refine ⟨_, rfl, _, _, .type "int", _, true, rfl, .ty _, .base (.int _), kit_ty (by decide +kernel), true, rfl, iteT ?_⟩
    exact ⟨_, rfl, _, _, .type "int", _, false, rfl, .ty _, .base (.int _), kit_ty (by decide +kernel), false, rfl, q⟩

def sp_is_alphabet (K : PySem.W.Frag) : Sp := fun vs H Q _ => ∃ L, vs = [tx L] ∧ Alph L ∧ ∀ H', Ex H H' → Q (.bl true) H'

def sp_need_letters (K : PySem.W.Frag) : Sp := fun vs H Q _ => ∃ L, vs = [tx L] ∧ Alph L ∧ ∀ H', Ex H H' → Q .non H'

def over (L t : List Nat) : Bool := t.all fun c => decide (c ∈ L)
def sp_stands (K : PySem.W.Frag) : Sp := fun vs H Q _ => ∃ (L t : List Nat), vs = [tx L, tx t] ∧ Low t ∧ t.length ≤ 1000 ∧ L.length ≤ 1000 ∧ ∀ H', Ex H H' → Q (.bl (over L t)) H'

theorem over_true {L t : List Nat} (h : ∀ c ∈ t, c ∈ L) : over L t = true := by
  unfold over
  rw [List.all_eq_true]
  exact fun c hc => decide_eq_true (h c hc)
theorem exn {H H' : Hp} {p : Addr} (e : Ex H H') (h : H' p = none) : H p = none := by
  cases q : H p with
  | none => rfl
  | some o => rw [e p o q] at h; cases h
/-! ### sums in memory -/
/-- the tuples of some terms -/
def TV (K : PySem.W.Frag) (H : Hp) : List V → Tm.Terms → Prop
  | [], [] => True
  | v :: vs, e :: es => (∃ q, v = .ref q ∧ SqT K H q [tx e.1, .int e.2]) ∧ TV K H vs es
  | _, _ => False
theorem TV.len : ∀ {H : Hp} {vs : List V} {ts : Tm.Terms}, TV K H vs ts → vs.length = ts.length
  | _, [], [], _ => rfl
  | _, _ :: _, _ :: _, h => congrArg (· + 1) (TV.len h.2)
  | _, [], _ :: _, h => h.elim
  | _, _ :: _, [], h => h.elim
theorem TV.ex : ∀ {H H' : Hp} {vs : List V} {ts : Tm.Terms}, TV K H vs ts → Ex H H' → TV K H' vs ts
  | _, _, [], [], _, _ => trivial
  | _, _, _ :: _, _ :: _, ⟨⟨q, e, h⟩, r⟩, x => ⟨⟨q, e, ex_t x h⟩, r.ex x⟩
  | _, _, [], _ :: _, h, _ => h.elim
  | _, _, _ :: _, [], h, _ => h.elim
theorem TV.at : ∀ {H : Hp} {vs : List V} {ts : Tm.Terms} {i : Nat} {v : V}, TV K H vs ts → vs[i]? = some v → ∃ e q, ts[i]? = some e ∧ v = .ref q ∧ SqT K H q [tx e.1, .int e.2]
  | _, v :: _, e :: _, 0, _, ⟨⟨q, h, t⟩, _⟩, x => by
    cases x
    exact ⟨e, q, rfl, h, t⟩
  | _, _ :: _, _ :: _, i + 1, _, ⟨_, r⟩, x => TV.at (i := i) r x
  | _, [], _, _, _, _, x => by simp at x
  | _, _ :: _, [], _, _, h, _ => h.elim
theorem TV.snoc : ∀ {H : Hp} {vs : List V} {ts : Tm.Terms} {q : Addr} {w : List Nat} {n : Int}, TV K H vs ts → SqT K H q [tx w, .int n] → TV K H (vs ++ [.ref q]) (ts ++ [(w, n)])
  | _, [], [], q, w, n, _, h => ⟨⟨q, rfl, h⟩, trivial⟩
  | _, _ :: _, _ :: _, _, _, _, ⟨a, r⟩, h => ⟨a, r.snoc h⟩
  | _, [], _ :: _, _, _, _, h, _ => h.elim
  | _, _ :: _, [], _, _, _, h, _ => h.elim
/-- a list of terms -/
def TL (K : PySem.W.Frag) (H : Hp) (a : Addr) (ts : Tm.Terms) : Prop := ∃ vs, SqL K H a vs ∧ TV K H vs ts
theorem TL.ex {H H' : Hp} {a : Addr} {ts : Tm.Terms} (h : TL K H a ts) (x : Ex H H') : TL K H' a ts := let ⟨vs, s, t⟩ := h; ⟨vs, ex_l x s, t.ex x⟩
/-- an object of Sum -/
def SumAt (T : Tx K mg) (H : Hp) (v : V) (ts : Tm.Terms) : Prop := ∃ s dx l vs, v = .ref s ∧ H s = some (.ins T.C_Sum dx [("_terms", .ref l)]) ∧ H l = some (.lst vs) ∧ TV K H vs ts
theorem SumAt.ex {T : Tx K mg} {H H' : Hp} {v : V} {ts : Tm.Terms} (h : SumAt T H v ts) (x : Ex H H') : SumAt T H' v ts := let ⟨s, dx, l, vs, e, a, b, c⟩ := h; ⟨s, dx, l, vs, e, x _ _ a, x _ _ b, c.ex x⟩
theorem ty_tup {H : Hp} {a : Addr} {xs : List V} (h : SqT K H a xs) : TyX K H (.ref a) (.type "tuple") := by
  rcases h with (h | ⟨o, h⟩) | ⟨o, its, n, h, c, _⟩
  · exact .base (.tup h)
  · exact .fTuple h
  · exact .kTuple h c
theorem ty_lst {H : Hp} {a : Addr} {xs : List V} (h : SqL K H a xs) : TyX K H (.ref a) (.type "list") := by
  rcases h with (h | ⟨o, h⟩) | ⟨o, its, n, h, c, _⟩
  · exact .base (.lst h)
  · exact .base (.frz h)
  · exact .kList h c
theorem kit_self (C : Addr) : PySem.W.kitOne K (.ref C) (.ref C) = some true := by
  unfold PySem.W.kitOne
  simp
theorem ty_sum (T : Tx K mg) {H : Hp} {s dx : Addr} {fs : List (Str × V)} (h : H s = some (.ins T.C_Sum dx fs)) : TyX K H (.ref s) (.ref T.C_Sum) := .base (.ins h T.cl_Sum T.ia_Sum T.ib_Sum T.ic_Sum T.id_Sum)
def sp_need_sum (T : Tx K mg) : Sp := fun vs H Q _ => ∃ v ts, vs = [v] ∧ SumAt T H v ts ∧ Q .non H
theorem ok_need_sum (T : Tx K mg) : FnOk P w K mg base CX0 1 T.a_need_sum T.fd_need_sum ["total"] (sp_need_sum T) := by
  refine T.F_need_sum.ok sc_need_sum (fun vs H Q E h => ?_) (fun cdv A outer s H vs Q E hr h => ?_)
  · obtain ⟨_, _, rfl, _⟩ := h
    rfl
  · obtain ⟨v, ts, rfl, hs, q⟩ := h
    obtain ⟨a, dx, l, us, rfl, h1, h2, h3⟩ := hs
    refine ⟨_, (pss_one (ps_if (pt_not (pt_val (pe_callB call_isi (by rfl) T.n_isinstance (by decide +kernel) (pa_cons (pv 0) (pa_cons (pe_glob (v := .ref T.C_Sum) (by rfl) T.g_Sum rfl) pa_nil))))) (pss_one ps_never) pss_nil)), ?_⟩
    exact ⟨_, rfl, _, _, _, _, true, rfl, .own _, ty_sum T h1, kit_self _, true, rfl, iteF q⟩
/-- terms that are let -/
def Lows (ts : Tm.Terms) : Prop := ∀ e ∈ ts, Low e.1
def sp_are_terms (K : PySem.W.Frag) : Sp := fun vs H Q _ => ∃ a ts, vs = [.ref a] ∧ TL K H a ts ∧ Lows ts ∧ Q (.bl true) H
theorem ok__are_terms (T : Tx K mg) : FnOk P w K mg base CX0 2 T.a__are_terms T.fd__are_terms ["value"] (sp_are_terms K) := by
  refine T.F__are_terms.ok sc__are_terms (fun vs H Q E h => ?_) (fun cdv A outer s H vs Q E hr h => ?_)
  · obtain ⟨_, _, rfl, _⟩ := h
    rfl
  · obtain ⟨a, ts, rfl, ⟨us, hS, hT⟩, hL, q⟩ := h
    refine ⟨_, (pss_cons (ps_if (pt_not (pt_val (pe_callB call_isi (by rfl) T.n_isinstance (by decide +kernel) (pa_cons (pv 0) (pa_cons (pe_bltn (v := .ty "list") (u := .type "list") (by rfl) T.n_list (by decide +kernel) rfl) pa_nil))))) (pss_one (ps_ret pe_bl)) pss_nil) (pss_cons (ps_for PassesOwn.never rfl (pi_list (pv 0)) (pg_name (i := 1) sc__are_terms.nd rfl (by first | exact Or.inl rfl | exact Or.inr rfl)) (pss_one (ps_if (PW.pt (pw_or (pt_not (pt_val (pe_callB call_isi (by rfl) T.n_isinstance (by decide +kernel) (pa_cons (pv 1) (pa_cons (pe_bltn (v := .ty "tuple") (u := .type "tuple") (by rfl) T.n_tuple (by decide +kernel) rfl) pa_nil))))) (pw_or (pt_cmpR op_ne (pe_callB call_len_seq (by rfl) T.n_len (by decide +kernel) (pa_cons (pv 1) pa_nil)) pe_int (nomark _)) (pw_or (pt_not (pt_val (pe_call (ok_is_text T) (hr.mono (by decide)) (by rfl) T.g_is_text T.F_is_text.kp (b_is_text T) .nil pass0 (pa_cons (pe_ix ix_tup (pv 1) pe_int (fun _ _ => rfl)) pa_nil)))) (pw_or1 (pt_not (pt_val (pe_call (ok_is_whole T) (hr.mono (by decide)) (by rfl) T.g_is_whole T.F_is_whole.kp (b_is_whole T) .nil pass0 (pa_cons (pe_ix ix_tup (pv 1) pe_int (fun _ _ => rfl)) pa_nil))))))))) (pss_one (ps_ret pe_bl)) pss_nil))) (pss_one (ps_ret pe_bl)))), ?_⟩
    refine ⟨_, rfl, _, _, .type "list", _, true, rfl, .ty _, ty_lst hS, kit_ty (by decide +kernel), true, rfl, iteF ?_⟩
    refine ⟨_, rfl, a, rfl, ⟨_, hS⟩, for_list (xs := us) (fun i σ H2 => ∃ y, σ = [some (.ref a), y] ∧ H2 = H) ⟨_, rfl, rfl⟩ (fun i σ H2 _ ⟨_, _, h⟩ => h ▸ hS) (fun i x σ H2 hx ⟨y, hσ, hH⟩ => ?_) (fun σ H2 ⟨y, hσ, hH⟩ => ?_)⟩
    · subst hσ hH
      obtain ⟨e, z, he, rfl, hz⟩ := hT.at hx
      have le := hL e (List.mem_of_getElem? he)
      refine ⟨_, rfl, _, _, .type "tuple", _, true, rfl, .ty _, ty_tup hz, kit_ty (by decide +kernel), true, rfl, iteF ?_⟩
      refine ⟨_, rfl, z, _, rfl, .inr hz, rfl, false, Rx.ne_same rfl, iteF ?_⟩
      refine ⟨_, rfl, z, _, 0, _, rfl, rfl, hz, rfl, e.1, rfl, le, true, rfl, iteF ?_⟩
      exact ⟨_, rfl, z, _, 1, _, rfl, rfl, hz, rfl, e.2, rfl, true, rfl, iteF ⟨_, rfl, rfl⟩⟩
    · subst hσ hH
      exact q
def sp_in_order (K : PySem.W.Frag) : Sp := fun vs H Q _ => ∃ (a : Addr) (ws : List (List Nat)), vs = [.ref a] ∧ SqL K H a (ws.map tx) ∧ (∀ t ∈ ws, t.length ≤ 100000) ∧
  ∀ p H', Ex H H' → H p = none → H' p = some (.lst ((Tm.ord ws).map tx)) → Q (.ref p) H'
theorem ok_in_order (T : Tx K mg) : FnOk P w K mg base CX0 1 T.a_in_order T.fd_in_order ["words"] (sp_in_order K) := by
  refine T.F_in_order.ok sc_in_order (fun vs H Q E h => ?_) (fun cdv A outer s H vs Q E hr h => ?_)
  · obtain ⟨_, _, rfl, _⟩ := h
    rfl
  · obtain ⟨a, ws, rfl, hS, hl, q⟩ := h
    refine ⟨_, (pss_one (ps_ret (Rx.pe_sortLen hr.units (by rfl) T.n_sorted (by rfl) T.n_len (pa_cons (pe_callB (Rx.cr_sortD hr.units) (by rfl) T.n_sorted (by decide +kernel) (pa_cons (pv 0) pa_nil)) pa_nil)))), ?_⟩
    refine ⟨_, rfl, a, _, ws, tx, fun t => PyData.str (mk t), rfl, hS, fun b _ => .str _, Rx.alike_strs ws, Rx.sortable_strs ws, fun b _ => Nat.zero_le _, fun p hp => ?_⟩
    rw [Rx.le_strs]
    refine ⟨p, _, rfl, .inl (.inl upd_same), fun t ht => hl t ((List.mergeSort_perm _ _).mem_iff.mp ht), fun p2 hp2 => ?_⟩
    have e1 := ex_upd (o := .lst ((ws.mergeSort fun a b => decide (a ≤ b)).map tx)) hp
    exact q p2 _ (e1.trans (ex_upd hp2)) (exn e1 hp2) upd_same
end
end K15
set_option Elab.async false
set_option linter.all false
set_option maxRecDepth 100000
set_option maxHeartbeats 4000000
namespace K15
open PySem PySem.Spec PyProof.Rows L2 Evl Bx
section
variable {P : Program} {w : World} {K : PySem.W.Frag} {mg : Str → Option Value} {base : Heap}
/-! ### draws -/
def sp__law_hash (K : PySem.W.Frag) : Sp := fun vs H Q _ => ∃ s i : Int, vs = [.int s, .int i] ∧ 0 ≤ s ∧ s < 2147483647 ∧ 0 ≤ i ∧ i ≤ 2 ^ 60 ∧ ∀ r : Int, 0 ≤ r → r < 2147483647 → Q (.int r) H
theorem ok__law_hash (T : Tx K mg) : FnOk P w K mg base CX0 1 T.a__law_hash T.fd__law_hash ["_law_seed", "_law_index"] (sp__law_hash K) := by
  refine T.F__law_hash.ok sc__law_hash (fun vs H Q E h => ?_) (fun cdv A outer s H vs Q E hr h => ?_)
  · obtain ⟨_, _, rfl, _⟩ := h
    rfl
  · obtain ⟨s0, i, rfl, s1, s2, i1, i2, q⟩ := h
    refine ⟨_, (pss_cons (ps_set (i := 2) sc__law_hash.nd rfl (by first | exact Or.inl rfl | exact Or.inr rfl) (pe_op op_mod (pe_callTy call_int1 (by rfl) T.n_int (by decide +kernel) (pa_cons (pe_op op_add (pe_op op_add (pe_op op_add (pe_op op_mulW (pv 0) pe_int) (pe_op op_mulW (pe_op op_mulW pe_int (pv 1)) (pv 1))) (pe_op op_mulW pe_int (pv 1))) pe_int) pa_nil)) pe_int)) (pss_cons (ps_set (i := 2) sc__law_hash.nd rfl (by first | exact Or.inl rfl | exact Or.inr rfl) (pe_op op_mod (pe_callTy call_int1 (by rfl) T.n_int (by decide +kernel) (pa_cons (pe_op op_add (pe_op op_add (pe_op op_mulW (pv 2) (pv 2)) (pe_op op_mulW pe_int (pv 1))) pe_int) pa_nil)) pe_int)) (pss_one (ps_ret (pe_op op_mod (pe_callTy call_int1 (by rfl) T.n_int (by decide +kernel) (pa_cons (pe_op op_mulW (pv 2) pe_int) pa_nil)) pe_int))))), ?_⟩
    refine ⟨_, rfl, _, _, rfl, rfl, mul_ok (small_abs (by omega)) (small_abs (by decide)), _, rfl, _, _, rfl, rfl, mul_ok (small_abs (by decide)) (small_abs (by omega)), _, rfl, _, _, rfl, rfl, mul_ok (mid_abs (by omega)) (small_abs (by omega)), _, _, rfl, rfl, _, rfl, _, _, rfl, rfl, mul_ok (small_abs (by decide)) (small_abs (by omega)), _, _, rfl, rfl, _, _, rfl, rfl, .inl ⟨_, rfl, ?_⟩⟩
    refine ⟨_, _, rfl, rfl, (by show (0 : Int) < 2147483629; decide), ?_⟩
    generalize hx : (s0 * 1140671 + 27644437 * i * i + 131 * i + 19 : Int) % 2147483629 = x
    have x1 : 0 ≤ x := by rw [← hx]; exact Int.emod_nonneg _ (by decide)
    have x2 : x < 2147483629 := by rw [← hx]; exact Int.emod_lt_of_pos _ (by decide)
    refine ⟨_, rfl, _, rfl, _, _, rfl, rfl, mul_ok (small_abs (by omega)) (small_abs (by omega)), _, rfl, _, _, rfl, rfl, mul_ok (small_abs (by decide)) (small_abs (by omega)), _, _, rfl, rfl, _, _, rfl, rfl, .inl ⟨_, rfl, ?_⟩⟩
    refine ⟨_, _, rfl, rfl, (by show (0 : Int) < 2147483587; decide), ?_⟩
    generalize hy : (x * x + 62089 * i + 32416187 : Int) % 2147483587 = y
    have y1 : 0 ≤ y := by rw [← hy]; exact Int.emod_nonneg _ (by decide)
    have y2 : y < 2147483587 := by rw [← hy]; exact Int.emod_lt_of_pos _ (by decide)
    refine ⟨_, rfl, _, _, rfl, rfl, mul_ok (small_abs (by omega)) (small_abs (by decide)), .inl ⟨_, rfl, ?_⟩⟩
    refine ⟨_, _, rfl, rfl, (by show (0 : Int) < 2147483647; decide), ?_⟩
    exact q _ (Int.emod_nonneg _ (by decide)) (Int.emod_lt_of_pos _ (by decide))
end
end K15
set_option Elab.async false
set_option linter.all false
set_option maxRecDepth 100000
set_option maxHeartbeats 4000000
namespace K15
open PySem PySem.Spec PyProof.Rows L2 Evl Bx
section
variable {P : Program} {w : World} {K : PySem.W.Frag} {mg : Str → Option Value} {base : Heap}
def sp__law_random (K : PySem.W.Frag) : Sp := fun vs H Q _ => ∃ (g : Addr) (bd : Int) (n : Nat), vs = [.ref g, .int bd] ∧ 0 < bd ∧ bd < 2 ^ 200 ∧ Gen H g n ∧ n ≤ 2 ^ 50 ∧
  ∀ (r : Int) H', 0 ≤ r → r < bd → Xg g H H' → Gen H' g (n + 10) → Q (.int r) H'
theorem grow_lt (i : Nat) (hi : i ≤ 20) : (2 : Nat) ^ (32 * i) < 2 ^ 9000 := Nat.pow_lt_pow_right (by decide) (by omega)
theorem ok__law_random (T : Tx K mg) : FnOk P w K mg base CX0 2 T.a__law_random T.fd__law_random ["_law_generator_here", "_law_bound"] (sp__law_random K) := by
  refine T.F__law_random.ok sc__law_random (fun vs H Q E h => ?_) (fun cdv A outer s H vs Q E hr h => ?_)
  · obtain ⟨_, _, _, rfl, _⟩ := h
    rfl
  · obtain ⟨g, bd, n, rfl, b1, b2, ⟨b, s0, c, hg, g1, g2, g3, g4, g5, g6⟩, n50, q⟩ := h
    refine ⟨_, (pss_cons (ps_if (pt_cmpR op_gt (pe_ix ix_list (pv 0) pe_int (fun _ _ => rfl)) pe_int (nomark _)) (pss_cons (ps_set (i := 2) sc__law_random.nd rfl (by first | exact Or.inl rfl | exact Or.inr rfl) (pe_op op_mod (pe_callTy call_int1 (by rfl) T.n_int (by decide +kernel) (pa_cons (pe_ix ix_list (pv 0) pe_int (fun _ _ => rfl)) pa_nil)) (pv 1))) (pss_cons (ps_asg (pe_op op_fdivW (pe_ix ix_list (pv 0) pe_int (fun _ _ => rfl)) (pv 1)) (pg_sub (pv 0) pe_int set_list)) (pss_one (ps_ret (pv 2))))) pss_nil) (pss_cons (ps_set (i := 2) sc__law_random.nd rfl (by first | exact Or.inl rfl | exact Or.inr rfl) pe_int) (pss_cons (ps_for PassesOwn.never rfl (pi_range1 (by rfl) T.n_range (pa_cons (pe_op op_add pe_int (pe_op op_fdivW (pe_bits (pv 1)) pe_int)) pa_nil)) (pg_name (i := 3) sc__law_random.nd rfl (by first | exact Or.inl rfl | exact Or.inr rfl)) (pss_cons (ps_asg (pe_op op_add (pe_ix ix_list (pv 0) pe_int (fun _ _ => rfl)) pe_int) (pg_sub (pv 0) pe_int set_list)) (pss_one (ps_set (i := 2) sc__law_random.nd rfl (by first | exact Or.inl rfl | exact Or.inr rfl) (pe_op op_add (pe_op op_mulW (pv 2) pe_int) (pe_call (ok__law_hash T) (hr.mono (by decide)) (by rfl) T.g__law_hash T.F__law_hash.kp (b__law_hash T) .nil pass0 (pa_cons (pe_ix ix_list (pv 0) pe_int (fun _ _ => rfl)) (pa_cons (pe_ix ix_list (pv 0) pe_int (fun _ _ => rfl)) pa_nil)))))))) (pss_one (ps_ret (pe_op op_mod (pe_callTy call_int1 (by rfl) T.n_int (by decide +kernel) (pa_cons (pv 2) pa_nil)) (pv 1))))))), ?_⟩
    refine ⟨_, rfl, g, _, _, .int b, rfl, rfl, .inl (.inl hg), atI_nat (j := 0) rfl, _, 0, rfl, rfl, _, rfl, ite2 (fun h => ?_) (fun h => ?_)⟩
    · -- a great seed is left
      refine ⟨_, rfl, g, _, _, .int b, rfl, rfl, .inl (.inl hg), atI_nat (j := 0) rfl, .inl ⟨_, rfl, ?_⟩⟩
      refine ⟨_, rfl, _, _, rfl, rfl, b1, ?_⟩
      refine ⟨_, rfl, g, _, _, .int b, rfl, rfl, .inl (.inl hg), atI_nat (j := 0) rfl, _, rfl, _, _, rfl, rfl, wide_div b1 (b := 200) (by omega) (by decide) (by decide), ?_⟩
      refine ⟨_, rfl, g, _, _, 0, rfl, rfl, hg, ixN_nat (j := 0) (by simp), ?_⟩
      refine ⟨_, rfl, q _ _ (Int.emod_nonneg _ (by omega)) (Int.emod_lt_of_pos _ b1) (Xg.refl g H).upd ⟨b / bd, s0, c, upd_same, Int.ediv_nonneg g1 (by omega), ?_, g3, g4, g5, by omega⟩⟩
      exact Int.lt_of_le_of_lt (Int.ediv_le_self _ g1) g2
    · -- the hash
      have hb := bits_le (i := bd) (n := 200) (by decide) (by omega)
      refine ⟨_, rfl, _, rfl, _, _, rfl, rfl, ⟨by decide, by decide⟩, _, _, rfl, rfl, ?_⟩
      have hd : ((Builtin.Int.intBits bd : Nat) : Int) / 30 ≤ 6 := by omega
      have hd0 : 0 ≤ ((Builtin.Int.intBits bd : Nat) : Int) / 30 := by omega
      refine ⟨_, rfl, by omega, by omega, ?_⟩
      have hm : (1 + ((Builtin.Int.intBits bd : Nat) : Int) / 30).toNat ≤ 7 := by omega
      generalize (1 + ((Builtin.Int.intBits bd : Nat) : Int) / 30).toNat = m at hm
      refine for_range (lo := 0) (n := m) (fun i σ H2 => ∃ (dr : Int) (y3 : Option V), σ = [some (.ref g), some (.int bd), some (.int dr), y3] ∧ 0 ≤ dr ∧ dr < 2 ^ (32 * i) ∧ Xg g H H2 ∧ ∃ c2 : Int, H2 g = some (.lst [.int b, .int s0, .int c2]) ∧ 0 ≤ c2 ∧ c2 ≤ n + i) ⟨0, none, rfl, by decide, by decide, Xg.refl g H, c, hg, g5, by omega⟩ (fun i σ H2 hi hp => ?_) (fun σ H2 hp => ?_)
      · obtain ⟨dr, y3, rfl, d0, d1, xg, c2, hg2, c20, c21⟩ := hp
        refine ⟨_, rfl, g, _, _, .int c2, rfl, rfl, .inl (.inl hg2), atI_nat (j := 2) rfl, _, _, rfl, rfl, ?_⟩
        refine ⟨_, rfl, g, _, _, 2, rfl, rfl, hg2, ixN_nat (j := 2) (by simp), ?_⟩
        have hg3 : upd H2 g (.lst [.int b, .int s0, .int (c2 + 1)]) g = some (.lst [.int b, .int s0, .int (c2 + 1)]) := upd_same
        have xg3 : Xg g H (upd H2 g (.lst [.int b, .int s0, .int (c2 + 1)])) := xg.upd
        show _
        have dn : dr.natAbs < 2 ^ 9000 := Nat.lt_of_lt_of_le (m := 2 ^ (32 * i)) (by
          have e : ((2 ^ (32 * i) : Nat) : Int) = (2 : Int) ^ (32 * i) := by rw [Int.natCast_pow]; rfl
          have : (dr.natAbs : Int) < ((2 ^ (32 * i) : Nat) : Int) := by rw [e, Int.natAbs_of_nonneg d0]; exact d1
          omega) (Nat.le_of_lt (grow_lt i (by omega)))
        refine ⟨_, rfl, _, _, rfl, rfl, mul_ok dn (small_abs (by decide)), _, rfl, g, _, _, .int s0, rfl, rfl, .inl (.inl hg3), atI_nat (j := 1) rfl, _, rfl, g, _, _, .int (c2 + 1), rfl, rfl, .inl (.inl hg3), atI_nat (j := 2) rfl, s0, c2 + 1, rfl, g3, g4, by omega, by omega, fun r r1 r2 => ?_⟩
        refine ⟨_, _, rfl, rfl, dr * 2147483587 + r, some (.int (0 + (i : Int))), rfl, ?_, ?_, xg3, c2 + 1, hg3, by omega, by omega⟩
        · have : 0 ≤ dr * 2147483587 := Int.mul_nonneg d0 (by decide)
          omega
        · have e : (2 : Int) ^ (32 * (i + 1)) = 2 ^ (32 * i) * 4294967296 := by
            rw [Nat.mul_add, Int.pow_add]
            rfl
          rw [e]
          generalize (2 : Int) ^ (32 * i) = z at d1 ⊢
          omega
      · obtain ⟨dr, y3, rfl, d0, d1, xg, c2, hg2, c20, c21⟩ := hp
        refine ⟨_, rfl, .inl ⟨_, rfl, ?_⟩⟩
        exact ⟨_, rfl, _, _, rfl, rfl, b1, q _ _ (Int.emod_nonneg _ (by omega)) (Int.emod_lt_of_pos _ b1) xg ⟨b, s0, c2, hg2, g1, g2, g3, g4, c20, by omega⟩⟩
/-! ### cells, generators -/
def sp__law_cell (K : PySem.W.Frag) : Sp := fun vs H Q _ => ∃ (a : Addr) (ns : List Int) (k : Nat), vs = [.ref a, .int (k : Nat)] ∧ SqL K H a (ns.map V.int) ∧ k ≤ 1000 ∧ ∀ (v : Int) H', Ex H H' → Q (.int v) H'
theorem cut_ints (ns : List Int) (lo hi : Option Int) : cutV (ns.map V.int) lo hi = ((ns.drop (HT.sIx ns.length 0 lo)).take (HT.sIx ns.length ns.length hi - HT.sIx ns.length 0 lo)).map V.int := by
  unfold cutV
  rw [List.length_map, List.map_take, List.map_drop]
theorem ok__law_cell (T : Tx K mg) : FnOk P w K mg base CX0 1 T.a__law_cell T.fd__law_cell ["_law_script", "_law_index"] (sp__law_cell K) := by
  refine T.F__law_cell.ok sc__law_cell (fun vs H Q E h => ?_) (fun cdv A outer s H vs Q E hr h => ?_)
  · obtain ⟨_, _, _, rfl, _⟩ := h
    rfl
  · obtain ⟨a, ns, k, rfl, hs, k1, q⟩ := h
    refine ⟨_, (pss_cons (ps_if (pt_cmpR op_lt (pv 1) (pe_callB call_len_seq (by rfl) T.n_len (by decide +kernel) (pa_cons (pv 0) pa_nil)) (nomark _)) (pss_one (ps_ret (pe_ix ix_list (pv 0) (pv 1) (fun _ _ => rfl)))) pss_nil) (pss_one (ps_ret (pe_op op_mod (pe_callB (cr_sum rfl) (by rfl) T.n_sum (by decide +kernel) (pa_cons (pe_slice sl_list (pv 0) po_none (po_some pe_int)) pa_nil)) pe_int)))), ?_⟩
    refine ⟨_, rfl, _, rfl, a, _, rfl, .inl hs, _, _, rfl, rfl, _, rfl, ite2 (fun h => ?_) (fun h => ?_)⟩
    · have h1 := of_decide_eq_true h
      rw [List.length_map] at h1
      have lt : k < ns.length := by omega
      exact ⟨_, rfl, _, rfl, a, _, _, .int ns[k], rfl, rfl, hs, atI_nat (by rw [List.getElem?_map, List.getElem?_eq_getElem lt]; rfl), q _ H (Ex.refl H)⟩
    · refine ⟨_, rfl, 1, rfl, a, _, rfl, hs, fun p np => ?_⟩
      rw [cut_ints]
      refine ⟨p, _, rfl, .inl (.inl upd_same), _, _, rfl, rfl, (by show (0 : Int) < 1000003; decide), q _ _ (Ex.new np)⟩
def sp__law_generator (K : PySem.W.Frag) : Sp := fun vs H Q _ => ∃ (a : Addr) (ns : List Int) (k : Nat), vs = [.ref a, .int (k : Nat)] ∧ SqL K H a (ns.map V.int) ∧ k ≤ 1000 ∧ ∀ (g : Addr) H', Ex H H' → H g = none → Gen H' g (1000 * k) → Q (.ref g) H'
theorem great : ((10 : Int) ^ 60) ^ 10 < 2 ^ 3000 := by decide +kernel
theorem ok__law_generator (T : Tx K mg) : FnOk P w K mg base CX0 2 T.a__law_generator T.fd__law_generator ["_law_script", "_law_index"] (sp__law_generator K) := by
  refine T.F__law_generator.ok sc__law_generator (fun vs H Q E h => ?_) (fun cdv A outer s H vs Q E hr h => ?_)
  · obtain ⟨_, _, _, rfl, _⟩ := h
    rfl
  · obtain ⟨a, ns, k, rfl, hs, k1, q⟩ := h
    refine ⟨_, (pss_cons (ps_set (i := 2) sc__law_generator.nd rfl (by first | exact Or.inl rfl | exact Or.inr rfl) (pe_call (ok__law_cell T) (hr.mono (by decide)) (by rfl) T.g__law_cell T.F__law_cell.kp (b__law_cell T) .nil pass0 (pa_cons (pv 0) (pa_cons (pv 1) pa_nil)))) (pss_one (ps_ret (pe_lst (pa_cons (pe_op op_mod (pe_callTy call_int1 (by rfl) T.n_int (by decide +kernel) (pa_cons (pe_callB (call_max2 rfl) (by rfl) T.n_max (by decide +kernel) (pa_cons (pe_op op_sub (pv 2) (pe_op Rx.op_powB pe_int pe_int)) (pa_cons pe_int pa_nil))) pa_nil)) (pe_op Rx.op_powB (pe_op Rx.op_powB pe_int pe_int) pe_int)) (pa_cons (pe_op op_mod (pe_callTy call_int1 (by rfl) T.n_int (by decide +kernel) (pa_cons (pv 2) pa_nil)) pe_int) (pa_cons (pe_op op_mulW pe_int (pv 1)) pa_nil))))))), ?_⟩
    refine ⟨_, rfl, _, rfl, a, ns, k, rfl, hs, k1, fun v H1 e1 => ?_⟩
    refine ⟨_, rfl, _, _, rfl, rfl, ⟨by decide, by decide +kernel⟩, _, _, rfl, rfl, _, _, rfl, .inl ⟨_, rfl, ?_⟩⟩
    refine ⟨_, _, rfl, rfl, ⟨by decide, by decide +kernel⟩, _, _, rfl, rfl, ⟨by decide, by decide +kernel⟩, _, _, rfl, rfl, ?_, ?_⟩
    · show (0 : Int) < (10 ^ 60) ^ 10
      decide +kernel
    refine ⟨_, rfl, .inl ⟨_, rfl, _, _, rfl, rfl, (by show (0 : Int) < 2147483647; decide), _, rfl, _, _, rfl, rfl, mul_ok (small_abs (by decide)) (small_abs (by omega)), ?_⟩⟩
    refine ⟨by show 3 ≤ sizeLine; decide, fun p np => ?_⟩
    refine q p _ (e1.trans (Ex.new np)) (fresh_back e1 np) ⟨_, _, _, upd_same, ?_, ?_, ?_, ?_, by omega, by omega⟩
    · exact Int.emod_nonneg _ (by
        show ((10 : Int) ^ 60) ^ 10 ≠ 0
        decide +kernel)
    · refine Int.lt_trans (Int.emod_lt_of_pos _ ?_) great
      show (0 : Int) < (10 ^ 60) ^ 10
      decide +kernel
    · exact Int.emod_nonneg _ (by decide)
    · exact Int.emod_lt_of_pos _ (by decide)
end
end K15
set_option Elab.async false
set_option linter.all false
set_option maxRecDepth 100000
set_option maxHeartbeats 4000000
namespace K15
open PySem PySem.Spec PyProof.Rows L2 Evl Bx
section
variable {P : Program} {w : World} {K : PySem.W.Frag} {mg : Str → Option Value} {base : Heap}
theorem map_erase {α β : Type} (f : α → β) : ∀ (l : List α) (k : Nat), (l.map f).eraseIdx k = (l.eraseIdx k).map f
  | [], _ => rfl
  | _ :: _, 0 => rfl
  | x :: l, k + 1 => congrArg (f x :: ·) (map_erase f l k)
theorem erase_perm : ∀ (l : List Nat) (k : Nat) (h : k < l.length), (l.eraseIdx k ++ [l[k]]).Perm l
  | [], _, h => by simp at h
  | x :: l, 0, _ => List.perm_append_comm
  | x :: l, k + 1, h => (erase_perm l k (by simpa using h)).cons x
theorem small_pow2 {i : Int} (h : i.natAbs < 2 ^ 200) : i.natAbs < 2 ^ 9000 := Nat.lt_of_lt_of_le h (Nat.pow_le_pow_right (by decide) (by decide))
/-! ### drawn letters, words, numbers -/
def sp__law_signs (K : PySem.W.Frag) : Sp := fun vs H Q _ => ∃ (g : Addr) (m n : Nat), vs = [.ref g, .int (m : Nat)] ∧ m ≤ 20 ∧ Gen H g n ∧ n ≤ 2 ^ 40 ∧
  ∀ (L : List Nat) H', L.length = m → Low L → L.Pairwise (· < ·) → Xg g H H' → Gen H' g (n + 10 * m) → Q (tx L) H'
theorem ok__law_signs (T : Tx K mg) : FnOk P w K mg base CX0 3 T.a__law_signs T.fd__law_signs ["_law_generator_here", "_law_many"] (sp__law_signs K) := by
  refine T.F__law_signs.ok sc__law_signs (fun vs H Q E h => ?_) (fun cdv A outer s H vs Q E hr h => ?_)
  · obtain ⟨_, _, _, rfl, _⟩ := h
    rfl
  · obtain ⟨g, m, n, rfl, m1, gn, n1, q⟩ := h
    refine ⟨_, (pss_cons (ps_set (i := 2) sc__law_signs.nd rfl (by first | exact Or.inl rfl | exact Or.inr rfl) (pe_callTy (Rx.cr_listS rfl) (by rfl) T.n_list (by decide +kernel) (pa_cons pe_str pa_nil))) (pss_one (ps_ret (pe_join pe_str (pe_callB (Rx.cr_sortD hr.units) (by rfl) T.n_sorted (by decide +kernel) (pa_cons (pe_lc (own := [("_law_turn", 3)]) (g := (gName 3)) (tt := tYes) rfl sc__law_signs.nd (pi_range1 (by rfl) T.n_range (pa_cons (pv 1) pa_nil)) (blkOk_by (own := [("_law_turn", 3)]) (N := N__law_signs) (sc := defScope s__law_signs) (by decide +kernel)) (fun _ _ _ _ _ => (pg_name (i := 3) sc__law_signs.nd rfl (by first | exact Or.inl rfl | exact Or.inr rfl))) (fun _ _ _ _ _ => pts_nil) (fun _ _ _ _ _ => ((pe_bm PySem.F.plainAttrs_list PySem.F.slot_list_pop PySem.F.type_list_pop mt_popAt (pv 2) (pa_cons (pe_call (ok__law_random T) (hr.mono (by decide)) (by rfl) T.g__law_random T.F__law_random.kp (b__law_random T) .nil pass0 (pa_cons (pv 0) (pa_cons (pe_callB (call_len_seq : CallR _ _ (fun xs H Q => ∃ p ys, xs = [.ref p] ∧ (SqL K H p ys ∨ SqT K H p ys) ∧ Q (.int ys.length) H)) (by rfl) T.n_len (by decide +kernel) (pa_cons (pv 2) pa_nil)) pa_nil))) pa_nil)) : PE _ _ (tBM K "list" rPopAt _ _)))) pa_nil)))))), ?_⟩
    refine ⟨_, rfl, by decide, fun pl npl => ?_⟩
    have gpl : g ≠ pl := gn.ne npl
    have sg : Sx.sgs (Str.ofString "abcdefghijklmnopqrstuvwxyz") = ((List.range 26).map fun c => mk [97 + c]) := by decide +kernel
    rw [sg]
    refine ⟨⟨_, rfl⟩, _, rfl, (m : Nat), rfl, by omega, by omega, fun D nD => ?_⟩
    rw [Int.toNat_natCast]
    have e0 : Ex H (upd H pl (.lst (((List.range 26).map fun c => mk [97 + c]).map V.str))) := ex_upd npl
    have nD0 : H D = none := exn e0 nD
    have pD : pl ≠ D := ex_ne upd_same nD
    have gD : g ≠ D := (gn.ex e0).ne nD
    refine lc_range (lo := 0) (n := m) (fun i H2 => ∃ rest t : List Nat, rest.length + i = 26 ∧ t.length = i ∧ (rest ++ t).Nodup ∧ Low rest ∧ Low t ∧ Xg g H H2 ∧ Gen H2 g (n + 10 * i) ∧ H2 pl = some (.lst ((rest.map fun c => mk [c]).map V.str)) ∧ H2 D = some (.lst ((t.map fun c => mk [c]).map V.str)))
      ⟨(List.range 26).map fun c => 97 + c, [], by simp, rfl, by decide, fun c hc => ?_, Low.nil, (Xg.of e0).mut nD0, ((gn.ex e0).oth gD), by rw [upd_ne pD, upd_same, List.map_map, List.map_map, List.map_map]; rfl, upd_same⟩ (fun i H2 hi hp => ?_) (fun H2 hp => ?_)
    · obtain ⟨k, hk, rfl⟩ := List.mem_map.mp hc
      have := List.mem_range.mp hk
      omega
    · obtain ⟨rest, t, rl, tl, nd, lr, lt, xg, g2, hp2, hD⟩ := hp
      refine ⟨rfl, ?_⟩
      dsimp only [tYes]
      refine iteT ⟨_, rfl, .inl ⟨rfl, _, .inl (.inl hp2)⟩, _, rfl, _, rfl, pl, _, rfl, .inl (.inl (.inl hp2)), g, _, n + 10 * i, rfl, ?_, ?_, g2, by omega, fun r H3 r0 r1 xg3 gn3 => ?_⟩
      · rw [List.length_map, List.length_map]; omega
      · rw [List.length_map, List.length_map]; omega
      · rw [List.length_map, List.length_map] at r1
        obtain ⟨k, rfl⟩ := Int.eq_ofNat_of_zero_le r0
        have kl : k < rest.length := by omega
        have hp3 := xg3 pl _ gpl.symm hp2
        have hD3 := xg3 D _ gD.symm hD
        refine ⟨pl, _, _, k, .str (mk [rest[k]]), rfl, rfl, hp3, by omega, by omega, ?_, ?_, ?_⟩
        · rw [List.length_map, List.length_map]
          exact seqIndex_of (by omega) (by omega)
        · rw [List.getElem?_map, List.getElem?_map, List.getElem?_eq_getElem kl]
          rfl
        · have er : (((rest.map fun c => mk [c]).map V.str).eraseIdx k) = ((rest.eraseIdx k).map fun c => mk [c]).map V.str := by
            rw [map_erase, map_erase]
          rw [er]
          refine ⟨_, by rw [upd_ne pD.symm]; exact hD3, by rw [List.length_map, List.length_map, tl]; exact sz_lt (by omega), rest.eraseIdx k, t ++ [rest[k]], by rw [List.length_eraseIdx_of_lt kl]; omega, by rw [List.length_append, tl]; rfl, ?_, lr.sub fun c hc => List.mem_of_mem_eraseIdx hc, lt.app fun c hc => by rw [List.mem_singleton.mp hc]; exact lr _ (List.getElem_mem kl), ((xg.trans xg3).mut npl).mut nD0, ?_, ?_, ?_⟩
          · have p1 : (rest.eraseIdx k ++ (t ++ [rest[k]])).Perm (rest ++ t) := by
              refine (List.Perm.append_left _ List.perm_append_comm).trans ?_
              rw [← List.append_assoc]
              exact (erase_perm rest k kl).append_right t
            exact p1.nodup_iff.mpr nd
          · have e : n + 10 * (i + 1) = n + 10 * i + 10 := by omega
            rw [e]
            exact (gn3.oth gpl).oth gD
          · rw [upd_ne pD, upd_same]
          · rw [upd_same, List.map_append, List.map_append]
            rfl
    · obtain ⟨rest, t, rl, tl, nd, lr, lt, xg, g2, hp2, hD⟩ := hp
      have hD2 : H2 D = some (.lst ((t.map fun c => [c]).map tx)) := by rw [hD, List.map_map, List.map_map]; rfl
      refine ⟨D, _, t.map fun c => [c], tx, fun w => PyData.str (mk w), rfl, .inl (.inl hD2), fun b _ => .str _, Rx.alike_strs _, Rx.sortable_strs _, fun b _ => Nat.zero_le _, fun p np => ?_⟩
      obtain ⟨t2, ht2⟩ : ∃ t2 : List Nat, (t.map fun c => [c]).mergeSort (PySem.W.dataLe false fun w => PyData.str (mk w)) = t2.map fun c => [c] := by
        have : ∀ l : List (List Nat), (∀ w ∈ l, ∃ c, w = [c]) → ∃ t2 : List Nat, l = t2.map fun c => [c] := by
          intro l
          induction l with
          | nil => intro _; exact ⟨[], rfl⟩
          | cons w l ih =>
            intro h
            obtain ⟨t2, e⟩ := ih fun w hw => h w (List.mem_cons_of_mem _ hw)
            obtain ⟨c, e2⟩ := h w List.mem_cons_self
            exact ⟨c :: t2, by rw [e, e2]; rfl⟩
        refine this _ fun w hw => ?_
        obtain ⟨c, _, e⟩ := List.mem_map.mp ((List.mergeSort_perm _ _).mem_iff.mp hw)
        exact ⟨c, e.symm⟩
      have perm := List.mergeSort_perm (t.map fun c => [c]) (PySem.W.dataLe false fun w => PyData.str (mk w))
      have sorted := List.pairwise_mergeSort (le := PySem.W.dataLe false fun w : List Nat => PyData.str (mk w)) (fun a b c h h' => ?_) (fun a b => ?_) (t.map fun c => [c])
      rotate_left
      · rw [Rx.le_strs] at h h' ⊢
        exact decide_eq_true (List.le_trans (of_decide_eq_true h) (of_decide_eq_true h'))
      · rw [Rx.le_strs]
        show (decide (a ≤ b) || decide (b ≤ a)) = true
        rcases List.le_total a b with z | z
        · rw [decide_eq_true z]; rfl
        · rw [decide_eq_true z, Bool.or_true]
      rw [ht2] at perm sorted ⊢
      have l2 : t2.length = t.length := by
        have := perm.length_eq
        rw [List.length_map, List.length_map] at this
        exact this
      have m2 : ∀ c ∈ t2, c ∈ t := fun c hc => by
        obtain ⟨d, hd, e⟩ := List.mem_map.mp (perm.mem_iff.mp (List.mem_map_of_mem (f := fun c => [c]) hc))
        cases e
        exact hd
      have es : (t2.map fun c => [c]).map tx = (t2.map fun c => mk [c]).map V.str := by rw [List.map_map, List.map_map]; rfl
      rw [es]
      refine ⟨mk [], p, t2.map fun c => mk [c], rfl, rfl, .inl (.inl (.inl upd_same)), ?_, ?_⟩
      · rw [Bx.len_signs, List.length_map, mk_len]
        simp
        omega
      · rw [join_signs]
        have nd2 : t2.Nodup := by
          have p0 : (t2.map fun c => [c]).Nodup := perm.nodup_iff.mpr (List.pairwise_map.mpr ((List.nodup_append.mp nd).2.1.imp fun h z => h (by simpa using z)))
          exact (List.pairwise_map.mp p0).imp fun h z => h (by rw [z])
        have up2 : t2.Pairwise (· < ·) := by
          have le2 : t2.Pairwise (· ≤ ·) := (List.pairwise_map.mp sorted).imp fun {a b} h => by
            rw [Rx.le_strs] at h
            have h1 : ([a] : List Nat) ≤ [b] := of_decide_eq_true h
            apply Decidable.byContradiction
            intro z
            exact h1 (List.cons_lt_cons_iff.mpr (.inl (by omega)))
          exact (le2.and nd2).imp fun {a b} h => by
            have := h.1
            have := h.2
            omega
        exact q t2 _ (by omega) (lt.sub m2) up2 (xg.ex (ex_upd np)) (g2.ex (ex_upd np))
def sp__law_word (K : PySem.W.Frag) : Sp := fun vs H Q _ => ∃ (g : Addr) (L : List Nat) (a b n : Nat), vs = [.ref g, tx L, .int (a : Nat), .int (b : Nat)] ∧ 1 ≤ L.length ∧ L.length ≤ 1000 ∧ a ≤ b ∧ b ≤ 100 ∧ Gen H g n ∧ n ≤ 2 ^ 40 ∧
  ∀ (t : List Nat) H', a ≤ t.length → t.length ≤ b → (∀ c ∈ t, c ∈ L) → Xg g H H' → Gen H' g (n + 10 + 10 * b) → Q (tx t) H'
theorem ok__law_word (T : Tx K mg) : FnOk P w K mg base CX0 3 T.a__law_word T.fd__law_word ["_law_generator_here", "_law_signs_here", "_law_least", "_law_most"] (sp__law_word K) := by
  refine T.F__law_word.ok sc__law_word (fun vs H Q E h => ?_) (fun cdv A outer s H vs Q E hr h => ?_)
  · obtain ⟨_, _, _, _, _, rfl, _⟩ := h
    rfl
  · obtain ⟨g, L, a, b, n, rfl, l1, l2, ab, b1, gn, n1, q⟩ := h
    refine ⟨_, (pss_cons (ps_set (i := 4) sc__law_word.nd rfl (by first | exact Or.inl rfl | exact Or.inr rfl) (pe_op op_add (pv 2) (pe_call (ok__law_random T) (hr.mono (by decide)) (by rfl) T.g__law_random T.F__law_random.kp (b__law_random T) .nil pass0 (pa_cons (pv 0) (pa_cons (pe_op op_add (pe_op op_sub (pv 3) (pv 2)) pe_int) pa_nil))))) (pss_one (ps_ret (pe_join pe_str (pe_lc (own := [("_law_turn", 5)]) (g := (gName 5)) (tt := tYes) rfl sc__law_word.nd (pi_range1 (by rfl) T.n_range (pa_cons (pv 4) pa_nil)) (blkOk_by (own := [("_law_turn", 5)]) (N := N__law_word) (sc := defScope s__law_word) (by decide +kernel)) (fun _ _ _ _ _ => (pg_name (i := 5) sc__law_word.nd rfl (by first | exact Or.inl rfl | exact Or.inr rfl))) (fun _ _ _ _ _ => pts_nil) (fun _ _ _ _ _ => (pe_ix ix_str (pv 1) (pe_call (ok__law_random T) (hr.mono (by decide)) (by rfl) T.g__law_random T.F__law_random.kp (b__law_random T) .nil pass0 (pa_cons (pv 0) (pa_cons (pe_callB call_len_str (by rfl) T.n_len (by decide +kernel) (pa_cons (pv 1) pa_nil)) pa_nil))) (fun _ _ => rfl)))))))), ?_⟩
    refine ⟨_, rfl, _, rfl, _, rfl, _, rfl, _, _, rfl, rfl, _, 1, rfl, rfl, g, _, n, rfl, by omega, by omega, gn, by omega, fun r H1 r0 r1 x1 g1 => ?_⟩
    refine ⟨_, _, rfl, rfl, ?_⟩
    have em : (a : Int) + r = ((a + r.toNat : Nat) : Int) := by omega
    have ml : a + r.toNat ≤ b := by omega
    refine ⟨⟨_, rfl⟩, _, rfl, (a : Int) + r, rfl, by omega, by omega, fun D nD => ?_⟩
    have et : ((a : Int) + r).toNat = a + r.toNat := by omega
    rw [et]
    generalize hm : a + r.toNat = m at ml
    have gD : g ≠ D := g1.ne nD
    have hD0 : H D = none := x1.fresh g1.there nD
    refine lc_range (lo := 0) (n := m) (fun i H2 => ∃ t : List Nat, t.length = i ∧ (∀ c ∈ t, c ∈ L) ∧ Xg g H H2 ∧ Gen H2 g (n + 10 + 10 * i) ∧ H2 D = some (.lst ((t.map fun c => mk [c]).map V.str))) ⟨[], rfl, by simp, x1.ex (Ex.new nD), g1.oth gD, upd_same⟩ (fun i H2 hi hp => ?_) (fun H2 hp => ?_)
    · obtain ⟨t, tl, tm, xg, gn2, hD⟩ := hp
      refine ⟨rfl, ?_⟩
      refine ⟨_, rfl, _, rfl, _, rfl, mk L, rfl, by rw [mk_len]; exact sz_of (by omega), g, _, n + 10 + 10 * i, rfl, by rw [mk_len]; omega, by rw [mk_len]; omega, gn2, by omega, fun r H3 r0 r1 xg3 gn3 => ?_⟩
      rw [mk_len] at r1
      obtain ⟨k, rfl⟩ := Int.eq_ofNat_of_zero_le r0
      have rl : k < L.length := by omega
      refine ⟨mk L, _, L[k], rfl, rfl, by rw [mk_len]; exact sz_of (by omega), atI_nat (by rw [mk_list]; exact List.getElem?_eq_getElem rl), ?_⟩
      have hD3 := xg3 D _ gD.symm hD
      refine ⟨_, hD3, by rw [List.length_map, List.length_map, tl]; exact sz_lt (by omega), t ++ [L[k]], by rw [List.length_append, tl]; rfl, fun c hc => ?_, (xg.trans xg3).mut hD0, ?_, ?_⟩
      · rcases List.mem_append.mp hc with e | e
        · exact tm c e
        · rw [List.mem_singleton] at e
          rw [e]
          exact List.getElem_mem rl
      · have e : n + 10 + 10 * (i + 1) = n + 10 + 10 * i + 10 := by omega
        rw [e]
        exact gn3.oth gD
      · rw [upd_same, List.map_append, List.map_append]
        rfl
    · obtain ⟨t, tl, tm, xg, gn2, hD⟩ := hp
      refine ⟨mk [], D, t.map fun c => mk [c], rfl, rfl, .inl (.inl (.inl hD)), ?_, ?_⟩
      · rw [Bx.len_signs, List.length_map, mk_len]
        simp
        omega
      · rw [join_signs]
        exact q t H2 (by omega) (by omega) tm xg (gn2.up (by omega))
def sp__law_number (K : PySem.W.Frag) : Sp := fun vs H Q _ => ∃ (g : Addr) (n : Nat), vs = [.ref g] ∧ Gen H g n ∧ n ≤ 2 ^ 40 ∧
  ∀ (r : Int) H', r.natAbs ≤ 10 ^ 29 → Xg g H H' → Gen H' g (n + 20) → Q (.int r) H'
theorem ok__law_number (T : Tx K mg) : FnOk P w K mg base CX0 3 T.a__law_number T.fd__law_number ["_law_generator_here"] (sp__law_number K) := by
  refine T.F__law_number.ok sc__law_number (fun vs H Q E h => ?_) (fun cdv A outer s H vs Q E hr h => ?_)
  · obtain ⟨_, _, rfl, _⟩ := h
    rfl
  · obtain ⟨g, n, rfl, gn, n1, q⟩ := h
    refine ⟨_, (pss_cons (ps_if (pt_cmpR op_eq (pe_call (ok__law_random T) (hr.mono (by decide)) (by rfl) T.g__law_random T.F__law_random.kp (b__law_random T) .nil pass0 (pa_cons (pv 0) (pa_cons pe_int pa_nil))) pe_int (nomark _)) (pss_one (ps_ret (pe_op op_sub (pe_call (ok__law_random T) (hr.mono (by decide)) (by rfl) T.g__law_random T.F__law_random.kp (b__law_random T) .nil pass0 (pa_cons (pv 0) (pa_cons (pe_op op_mulW pe_int (pe_op Rx.op_powB pe_int pe_int)) pa_nil))) (pe_op Rx.op_powB pe_int pe_int)))) pss_nil) (pss_one (ps_ret (pe_op op_sub (pe_call (ok__law_random T) (hr.mono (by decide)) (by rfl) T.g__law_random T.F__law_random.kp (b__law_random T) .nil pass0 (pa_cons (pv 0) (pa_cons pe_int pa_nil))) pe_int)))), ?_⟩
    refine ⟨_, rfl, g, 4, n, rfl, by decide, by decide, gn, by omega, fun r H1 r0 r1 x1 g1 => ?_⟩
    refine ⟨rfl, _, rfl, ite2 (fun h => ?_) (fun h => ?_)⟩
    · refine ⟨_, rfl, _, _, rfl, rfl, ⟨by decide, by decide +kernel⟩, _, _, rfl, rfl, mul_ok (small_abs (by decide)) (small_pow2 (by decide +kernel)), g, _, n + 10, rfl, by show (0 : Int) < 2 * 10 ^ 29; decide, by show (2 : Int) * 10 ^ 29 < 2 ^ 200; decide +kernel, g1, by omega, fun r2 H2 r20 r21 x2 g2 => ?_⟩
      have rb : r2 < 2 * 10 ^ 29 := r21
      refine ⟨_, _, rfl, rfl, ⟨by decide, by decide +kernel⟩, _, _, rfl, rfl, q _ H2 ?_ (x1.trans x2) g2⟩
      show (r2 - 10 ^ 29).natAbs ≤ 10 ^ 29
      omega
    · refine ⟨_, rfl, g, 7, n + 10, rfl, by decide, by decide, g1, by omega, fun r2 H2 r20 r21 x2 g2 => ?_⟩
      refine ⟨_, _, rfl, rfl, q _ H2 ?_ (x1.trans x2) g2⟩
      omega
end
end K15
set_option linter.all false
/-! Nx2: rows of counts of the rests -/
namespace Nx
open Mx
def er (w t : List Nat) : List Int := (List.range (t.length + 1)).map fun j => ((cnt w (t.drop j) : Nat) : Int)
def eb (w t : List Nat) (k : Nat) : List Int := (List.range (k + 1)).map fun j => ((cnt w (t.drop (t.length - j)) : Nat) : Int)
theorem er_len (w t : List Nat) : (er w t).length = t.length + 1 := by simp [er]
theorem er_at {w t : List Nat} {j : Nat} (h : j ≤ t.length) : (er w t)[j]? = some ((cnt w (t.drop j) : Nat) : Int) := by
  unfold er
  rw [List.getElem?_map, List.getElem?_range (by omega)]
  rfl
theorem er_nil (t : List Nat) : er [] t = List.replicate (t.length + 1) 1 := by
  unfold er
  have e : (fun j => ((cnt [] (t.drop j) : Nat) : Int)) = fun _ => (1 : Int) := by
    funext j
    rw [cnt_nil]
    rfl
  rw [e]
  exact List.ext_getElem (by simp) fun i h1 h2 => by simp
theorem eb_len (w t : List Nat) (k : Nat) : (eb w t k).length = k + 1 := by simp [eb]
theorem eb_zero (a : Nat) (w t : List Nat) : eb (a :: w) t 0 = [0] := by
  show [((cnt (a :: w) (t.drop (t.length - 0)) : Nat) : Int)] = [0]
  rw [Nat.sub_zero, List.drop_of_length_le (Nat.le_refl _), cnt_e]
  rfl
theorem eb_last (w t : List Nat) (k : Nat) : (eb w t k)[k]? = some ((cnt w (t.drop (t.length - k)) : Nat) : Int) := by
  unfold eb
  rw [List.getElem?_map, List.getElem?_range (by omega)]
  rfl
theorem eb_succ (w t : List Nat) (k : Nat) : eb w t (k + 1) = eb w t k ++ [((cnt w (t.drop (t.length - (k + 1))) : Nat) : Int)] := by
  unfold eb
  rw [List.range_succ, List.map_append]
  rfl
theorem eb_at {w t : List Nat} {k j : Nat} (h : j ≤ k) : (eb w t k)[j]? = some ((cnt w (t.drop (t.length - j)) : Nat) : Int) := by
  unfold eb
  rw [List.getElem?_map, List.getElem?_range (by omega)]
  rfl
theorem eb_rev (w t : List Nat) : (eb w t t.length).reverse = er w t := by
  refine List.ext_getElem? fun i => ?_
  by_cases h : i ≤ t.length
  · rw [List.getElem?_reverse (by rw [eb_len]; omega), er_at h, eb_len, eb_at (by omega)]
    have e : t.length - (t.length + 1 - 1 - i) = i := by omega
    rw [e]
  · rw [List.getElem?_eq_none (by rw [List.length_reverse, eb_len]; omega), List.getElem?_eq_none (by rw [er_len]; omega)]
/-- a letter more, one place back -/
theorem eb_turn {t : List Nat} {k : Nat} (a : Nat) (u : List Nat) (h : k < t.length) :
    ((cnt (a :: u) (t.drop (t.length - (k + 1))) : Nat) : Int) = ((cnt (a :: u) (t.drop (t.length - k)) : Nat) : Int) + (if t[t.length - 1 - k]? = some a then ((cnt u (t.drop (t.length - k)) : Nat) : Int) else 0) := by
  have hp : t.length - 1 - k < t.length := by omega
  have e1 : t.length - (k + 1) = t.length - 1 - k := by omega
  have e2 : t.length - 1 - k + 1 = t.length - k := by omega
  rw [e1, back a u hp, e2, List.getElem?_eq_getElem hp]
  by_cases z : a = t[t.length - 1 - k]
  · rw [if_pos z, if_pos (by rw [z])]
    omega
  · rw [if_neg z, if_neg (fun y => z (Option.some.inj y).symm)]
    omega
end Nx
namespace Nx
open Mx
theorem cnt_pow : ∀ (t w : List Nat), cnt w t ≤ t.length ^ w.length
  | t, [] => by rw [cnt_nil]; simp
  | [], a :: w => by rw [cnt_e]; exact Nat.zero_le _
  | b :: t, a :: w => by
    have i1 := cnt_pow t (a :: w)
    have i2 := cnt_pow t w
    have h : cnt (a :: w) (b :: t) ≤ cnt (a :: w) t + cnt w t := by
      rw [cnt_c]
      split <;> omega
    refine Nat.le_trans h ?_
    rw [List.length_cons, List.length_cons] at *
    have h2 : t.length ^ w.length ≤ (t.length + 1) ^ w.length := Nat.pow_le_pow_left (by omega) _
    have h3 : t.length ^ (w.length + 1) ≤ (t.length + 1) ^ w.length * t.length := by
      rw [Nat.pow_succ]
      exact Nat.mul_le_mul_right _ h2
    rw [Nat.pow_succ (t.length + 1), Nat.mul_add, Nat.mul_one]
    omega
theorem cnt_small {w t : List Nat} (hw : w.length ≤ 12) (ht : t.length ≤ 300) : cnt w t < 2 ^ 200 := by
  have h1 : t.length ^ w.length ≤ 300 ^ w.length := Nat.pow_le_pow_left ht _
  have h2 : (300 : Nat) ^ w.length ≤ 300 ^ 12 := Nat.pow_le_pow_right (by decide) hw
  have h3 : (300 : Nat) ^ 12 < 2 ^ 200 := by decide +kernel
  exact Nat.lt_of_le_of_lt (Nat.le_trans (cnt_pow t w) (Nat.le_trans h1 h2)) h3
end Nx
set_option Elab.async false
set_option linter.all false
set_option maxRecDepth 100000
set_option maxHeartbeats 4000000
namespace K15
open PySem PySem.Spec PyProof.Rows L2 Evl Bx
section
variable {P : Program} {w : World} {K : PySem.W.Frag} {mg : Str → Option Value} {base : Heap}
/-! ### count -/
def sp__law_count (K : PySem.W.Frag) : Sp := fun vs H Q _ => ∃ u t, vs = [tx u, tx t] ∧ u.length ≤ 1000 ∧ t.length ≤ 1000 ∧ ∀ H', Ex H H' → Q (.int ((Mx.cnt u t : Nat) : Int)) H'
/-- what stands at the loop's list -/
def At (H : Hp) (p : Addr) (H' : Hp) (ns : List Int) : Prop := Ex H H' ∧ H p = none ∧ H' p = some (.lst (ns.map V.int))
theorem ok__law_count (T : Tx K mg) : FnOk P w K mg base CX0 1 T.a__law_count T.fd__law_count ["_law_word_here", "_law_text"] (sp__law_count K) := by
  refine T.F__law_count.ok sc__law_count (fun vs H Q E h => ?_) (fun cdv A outer s H vs Q E hr h => ?_)
  · obtain ⟨u, t, rfl, _⟩ := h
    rfl
  · obtain ⟨u, t, rfl, lu, lt, q⟩ := h
    refine ⟨_, (pss_cons (ps_set (i := 2) sc__law_count.nd rfl (by first | exact Or.inl rfl | exact Or.inr rfl) (pe_op op_cat (pe_lst (pa_cons pe_int pa_nil)) (pe_op op_rep (pe_lst (pa_cons pe_int pa_nil)) (pe_callB call_len_str (by rfl) T.n_len (by decide +kernel) (pa_cons (pv 0) pa_nil))))) (pss_cons (ps_for PassesOwn.never rfl (pi_str (pv 1)) (pg_name (i := 3) sc__law_count.nd rfl (by first | exact Or.inl rfl | exact Or.inr rfl)) (pss_one (ps_for PassesOwn.never rfl (pi_range1 (by rfl) T.n_range (pa_cons (pe_callB call_len_str (by rfl) T.n_len (by decide +kernel) (pa_cons (pv 0) pa_nil)) pa_nil)) (pg_name (i := 4) sc__law_count.nd rfl (by first | exact Or.inl rfl | exact Or.inr rfl)) (pss_one (ps_if (pt_cmpR op_eq (pe_ix ix_str (pv 0) (pe_op op_sub (pe_op op_sub (pe_callB call_len_str (by rfl) T.n_len (by decide +kernel) (pa_cons (pv 0) pa_nil)) pe_int) (pv 4)) (fun _ _ => rfl)) (pv 3) (nomark _)) (pss_one (ps_asg (pe_op op_add (pe_ix ix_list (pv 2) (pe_op op_sub (pe_callB call_len_str (by rfl) T.n_len (by decide +kernel) (pa_cons (pv 0) pa_nil)) (pv 4)) (fun _ _ => rfl)) (pe_ix ix_list (pv 2) (pe_op op_sub (pe_op op_sub (pe_callB call_len_str (by rfl) T.n_len (by decide +kernel) (pa_cons (pv 0) pa_nil)) pe_int) (pv 4)) (fun _ _ => rfl))) (pg_sub (pv 2) (pe_op op_sub (pe_callB call_len_str (by rfl) T.n_len (by decide +kernel) (pa_cons (pv 0) pa_nil)) (pv 4)) set_list))) pss_nil))))) (pss_one (ps_ret (pe_ix ix_list (pv 2) (pe_callB call_len_str (by rfl) T.n_len (by decide +kernel) (pa_cons (pv 0) pa_nil)) (fun _ _ => rfl)))))), ?_⟩
    -- ways = [1] + [0] * len(word)
    refine ⟨by show 1 ≤ sizeLine; decide, fun p1 n1 => ?_⟩
    refine ⟨by show 1 ≤ sizeLine; decide, fun p2 n2 => ?_⟩
    have d12 : p2 ≠ p1 := fun e => by rw [e, upd_same] at n2; cases n2
    refine ⟨_, rfl, mk u, rfl, by rw [mk_len]; exact sz_of (by omega), _, _, _, rfl, rfl, upd_same, by rw [mk_len]; omega, by rw [mk_len]; omega, by rw [mk_len]; exact sz_of (by simp; omega), fun p3 n3 => ?_⟩
    have d31 : p3 ≠ p1 := fun e => by rw [e, upd_ne d12.symm, upd_same] at n3; cases n3
    have hz : (List.replicate ((mk u).length : Int).toNat [V.int 0]).flatten = List.replicate u.length (V.int 0) := by
      rw [mk_len, Int.toNat_natCast]
      generalize u.length = k
      induction k with
      | zero => rfl
      | succ k ih => rw [List.replicate_succ, List.flatten_cons, ih, List.replicate_succ]; rfl
    rw [hz]
    refine ⟨p1, p3, _, _, rfl, rfl, by rw [upd_ne d31.symm, upd_ne d12.symm, upd_same], upd_same, by simp; exact sz_of (by omega), fun p n => ?_⟩
    have e0 : [V.int 1] ++ List.replicate u.length (V.int 0) = (Mx.row u []).map V.int := by
      rw [Mx.row_nil]
      simp
    rw [e0]
    have at0 : At H p (upd (upd (upd (upd H p1 (.lst [V.int 1])) p2 (.lst [V.int 0])) p3 (.lst (List.replicate u.length (V.int 0)))) p (.lst ((Mx.row u []).map V.int))) (Mx.row u []) := by
      have x1 : Ex H (upd H p1 (.lst [V.int 1])) := Ex.new n1
      have x2 := x1.trans (Ex.new n2 (o := .lst [V.int 0]))
      have x3 := x2.trans (Ex.new n3 (o := .lst (List.replicate u.length (V.int 0))))
      exact ⟨x3.trans (Ex.new n), fresh_back x3 n, upd_same⟩
    generalize (upd (upd (upd (upd H p1 (.lst [V.int 1])) p2 (.lst [V.int 0])) p3 (.lst (List.replicate u.length (V.int 0)))) p (.lst ((Mx.row u []).map V.int))) = H0 at at0 ⊢
    -- for sign in text
    refine forS (l := t) (ev_var rfl) (fun i σ' H' => ∃ y3 y4, σ' = [some (tx u), some (tx t), some (.ref p), y3, y4] ∧ At H p H' (Mx.row u (t.take i))) (fun H1 e1 => ⟨_, _, rfl, at0.1.trans e1, at0.2.1, e1 _ _ at0.2.2⟩) (fun i c σ' H' hc hp => ?_) (fun σ' H' hp => ?_)
    · obtain ⟨y3, y4, rfl, a1, a2, a3⟩ := hp
      have hi : i < t.length := (List.getElem?_eq_some_iff.mp hc).1
      -- for at in reversed(range(len(word)))
      have SZ : (mk u).length ≤ sizeLine := by rw [mk_len]; exact sz_of (by omega)
      refine ⟨_, rfl, mk u, rfl, SZ, ((u.length : Nat) : Int), by rw [mk_len], by omega, by omega, ?_⟩
      rw [Int.toNat_natCast]
      refine for_range (lo := 0) (n := u.length)
        (fun k σ' H' => ∃ y4, σ' = [some (tx u), some (tx t), some (.ref p), some (tx [c]), y4] ∧ At H p H' (Mx.mid u (t.take i) c k)) ⟨_, rfl, a1, a2, by rw [Mx.mid_zero]; exact a3⟩ (fun k σ' H' hk hp => ?_) (fun σ' H' hp => ?_)
      · obtain ⟨y4, rfl, b1, b2, b3⟩ := hp
        have hku : k < u.length := by omega
        have hj : u.length - 1 - k < u.length := by omega
        have e0 : (0 : Int) + ((k : Nat) : Int) = ((k : Nat) : Int) := Int.zero_add _
        rw [e0]
        have ej : (((mk u).length : Nat) : Int) - 1 - ((k : Nat) : Int) = ((u.length - 1 - k : Nat) : Int) := by rw [mk_len]; omega
        have ek : (((mk u).length : Nat) : Int) - ((k : Nat) : Int) = ((u.length - k : Nat) : Int) := by rw [mk_len]; omega
        refine ⟨_, rfl, _, rfl, mk u, rfl, SZ, _, 1, rfl, rfl, _, rfl, _, _, rfl, rfl, mk u, _, u[u.length - 1 - k], rfl, rfl, SZ, by rw [ej]; exact atI_nat (by rw [mk_list]; exact List.getElem?_eq_getElem hj), _, rfl, rfl, _, rfl, ?_⟩
        have turn := Mx.mid_turn u (t.take i) c k hku
        rw [List.getElem?_eq_getElem hj] at turn
        refine ite2 (fun h => ?_) (fun h => ?_)
        · have h1 : u[u.length - 1 - k] = c := by
            have := (tx_inj (l := [u[u.length - 1 - k]]) (m := [c])).mp (of_decide_eq_true h)
            simpa using this
          rw [if_pos (congrArg some h1)] at turn
          have g1 : atI ((Mx.mid u (t.take i) c k).map V.int) ((((mk u).length : Nat) : Int) - ((k : Nat) : Int)) = some (.int ((Mx.cnt (u.take (u.length - k)) (t.take i) : Nat) : Int)) := by
            rw [ek]
            refine atI_nat ?_
            rw [List.getElem?_map, Mx.mid_at _ _ _ _ _ (by omega), if_neg (by omega)]
            rfl
          have g2 : atI ((Mx.mid u (t.take i) c k).map V.int) ((((mk u).length : Nat) : Int) - 1 - ((k : Nat) : Int)) = some (.int ((Mx.cnt (u.take (u.length - 1 - k)) (t.take i) : Nat) : Int)) := by
            rw [ej]
            refine atI_nat ?_
            rw [List.getElem?_map, Mx.mid_at _ _ _ _ _ (by omega), if_neg (by omega)]
            rfl
          refine ⟨_, rfl, _, rfl, mk u, rfl, SZ, _, rfl, _, _, rfl, rfl, p, _, _, _, rfl, rfl, .inl (.inl b3), g1, _, rfl, _, rfl, mk u, rfl, SZ, _, 1, rfl, rfl, _, rfl, _, _, rfl, rfl, p, _, _, _, rfl, rfl, .inl (.inl b3), g2, _, _, rfl, rfl, ?_⟩
          refine ⟨_, rfl, _, rfl, mk u, rfl, SZ, _, rfl, _, _, rfl, rfl, p, _, _, u.length - k, rfl, rfl, b3, ?_, ?_⟩
          · rw [ek]
            exact ixN_nat (by rw [List.length_map, Mx.mid_len]; omega)
          · refine ⟨_, rfl, Ex.mut b1 b2, b2, ?_⟩
            rw [upd_same, turn, List.map_set]
        · have h1 : ¬ u[u.length - 1 - k] = c := fun z => h (decide_eq_true (by rw [z]))
          rw [if_neg (fun z => h1 (Option.some.inj z))] at turn
          exact ⟨_, rfl, b1, b2, by rw [turn]; exact b3⟩
      · obtain ⟨y4, rfl, b1, b2, b3⟩ := hp
        refine ⟨_, _, rfl, b1, b2, ?_⟩
        have e : t.take (i + 1) = t.take i ++ [c] := by
          rw [List.take_add_one, hc]
          rfl
        rw [e, ← Mx.mid_all]
        exact b3
    · obtain ⟨y3, y4, rfl, a1, a2, a3⟩ := hp
      rw [List.take_of_length_le (Nat.le_refl _)] at a3
      refine ⟨_, rfl, _, rfl, mk u, rfl, by rw [mk_len]; exact sz_of (by omega), p, _, _, _, rfl, rfl, .inl (.inl a3), ?_, q _ a1⟩
      rw [mk_len]
      refine atI_nat ?_
      rw [List.getElem?_map, Mx.row_at _ _ _ (Nat.le_refl _), List.take_of_length_le (Nat.le_refl _)]
      rfl
end
end K15
set_option Elab.async false
set_option linter.all false
set_option maxRecDepth 100000
set_option maxHeartbeats 4000000
/-! Nd: dicts whose keys are words -/
namespace Nd
open PySem PySem.Spec PyProof.Rows L2 Evl Bx
open Tm (Wd Terms tot)
section
variable {α : Type}
def enc (v : α → V) (l : List (Wd × α)) : List (Key × V) := l.map fun e => (Sum.inr (mk e.1), v e.2)
def val (l : List (Wd × α)) (w : Wd) : Option α := (l.find? fun e => decide (e.1 = w)).map (·.2)
theorem val_pos {e : Wd × α} {l : List (Wd × α)} {w : Wd} (h : e.1 = w) : val (e :: l) w = some e.2 := by simp [val, List.find?_cons, h]
theorem val_neg {e : Wd × α} {l : List (Wd × α)} {w : Wd} (h : e.1 ≠ w) : val (e :: l) w = val l w := by simp [val, List.find?_cons, h]
theorem key_inj {u w : Wd} : ((Sum.inr (mk u) : Key) = Sum.inr (mk w)) ↔ u = w := ⟨fun h => mk_inj.mp (Sum.inr.inj h), fun h => by rw [h]⟩
theorem val_enc (v : α → V) (w : Wd) : ∀ l : List (Wd × α), valV (enc v l) (.inr (mk w)) = (val l w).map v
  | [] => rfl
  | e :: l => by
    by_cases h : e.1 = w
    · rw [val_pos h]
      exact valV_pos (p := (Sum.inr (mk e.1), v e.2)) (by rw [h])
    · rw [val_neg h]
      exact (valV_neg (p := (Sum.inr (mk e.1), v e.2)) fun z => h (key_inj.mp z)).trans (val_enc v w l)
theorem put_new {v : α → V} {l : List (Wd × α)} {w : Wd} {x : α} (h : val l w = none) : putK (enc v l) (.inr (mk w)) (v x) = enc v (l ++ [(w, x)]) := by
  rw [putK_new (v x) (by rw [val_enc, h]; rfl)]
  unfold enc
  rw [List.map_append]
  rfl
def upd1 (l : List (Wd × α)) (w : Wd) (x : α) : List (Wd × α) := l.map fun e => if e.1 = w then (e.1, x) else e
theorem put_old {v : α → V} {l : List (Wd × α)} {w : Wd} {x y : α} (h : val l w = some y) : putK (enc v l) (.inr (mk w)) (v x) = enc v (upd1 l w x) := by
  unfold putK
  rw [valV_any, val_enc, h]
  show List.map _ (enc v l) = _
  unfold enc upd1
  rw [List.map_map, List.map_map]
  refine List.map_congr_left fun e _ => ?_
  show (if (Sum.inr (mk e.1) : Key) = Sum.inr (mk w) then _ else _) = _
  by_cases z : e.1 = w
  · rw [if_pos (key_inj.mpr z)]
    show _ = (Sum.inr (mk (if e.1 = w then (e.1, x) else e).1), v (if e.1 = w then (e.1, x) else e).2)
    rw [if_pos z]
  · rw [if_neg fun q => z (key_inj.mp q)]
    show _ = (Sum.inr (mk (if e.1 = w then (e.1, x) else e).1), v (if e.1 = w then (e.1, x) else e).2)
    rw [if_neg z]
theorem keys_upd1 (l : List (Wd × α)) (w : Wd) (x : α) : (upd1 l w x).map (·.1) = l.map (·.1) := by
  unfold upd1
  rw [List.map_map]
  refine List.map_congr_left fun e _ => ?_
  show (if e.1 = w then (e.1, x) else e).1 = e.1
  split <;> rfl
theorem val_none {l : List (Wd × α)} {w : Wd} : val l w = none ↔ w ∉ l.map (·.1) := by
  induction l with
  | nil => simp [val]
  | cons e l ih =>
    by_cases h : e.1 = w
    · rw [val_pos h]
      simp [h]
    · rw [val_neg h, ih, List.map_cons, List.mem_cons, not_or]
      exact ⟨fun q => ⟨fun z => h z.symm, q⟩, fun q => q.2⟩
theorem val_mem {l : List (Wd × α)} {w : Wd} {x : α} (h : val l w = some x) : (w, x) ∈ l := by
  induction l with
  | nil => simp [val] at h
  | cons e l ih =>
    by_cases z : e.1 = w
    · rw [val_pos z] at h
      cases h
      rw [← z]
      exact List.mem_cons_self
    · rw [val_neg z] at h
      exact List.mem_cons_of_mem _ (ih h)
theorem mem_val {l : List (Wd × α)} (nd : (l.map (·.1)).Nodup) {w : Wd} {x : α} (h : (w, x) ∈ l) : val l w = some x := by
  induction l with
  | nil => cases h
  | cons e l ih =>
    have nd' := List.nodup_cons.mp nd
    rcases List.mem_cons.mp h with z | z
    · rw [← z]
      exact val_pos rfl
    · have : e.1 ≠ w := fun q => nd'.1 (by show e.1 ∈ _; rw [q]; exact List.mem_map_of_mem (f := (·.1)) z)
      rw [val_neg this]
      exact ih nd'.2 z
theorem enc_len (v : α → V) (l : List (Wd × α)) : (enc v l).length = l.length := List.length_map _
theorem enc_keys (v : α → V) (l : List (Wd × α)) : (enc v l).map (fun e => kV e.1) = (l.map (·.1)).map tx := by
  unfold enc
  rw [List.map_map, List.map_map]
  rfl
theorem enc_at {v : α → V} {l : List (Wd × α)} {i : Nat} {k : Key} {x : V} (h : (enc v l)[i]? = some (k, x)) : ∃ e, l[i]? = some e ∧ k = .inr (mk e.1) ∧ x = v e.2 := by
  unfold enc at h
  rw [List.getElem?_map] at h
  cases q : l[i]? with
  | none => rw [q] at h; cases h
  | some e =>
    rw [q] at h
    cases h
    exact ⟨e, rfl, rfl, rfl⟩
end
/-! ### numbers that are added up -/
theorem tot_val {l : Terms} (nd : (l.map (·.1)).Nodup) (w : Wd) : tot l w = (val l w).getD 0 := by
  induction l with
  | nil => rfl
  | cons e l ih =>
    have nd' := List.nodup_cons.mp nd
    show (if e.1 = w then e.2 else 0) + tot l w = _
    by_cases h : e.1 = w
    · rw [if_pos h, val_pos h, Tm.tot_none fun x hx q => nd'.1 (by show e.1 ∈ _; rw [h, ← q]; exact List.mem_map_of_mem (f := (·.1)) hx)]
      show e.2 + 0 = e.2
      omega
    · rw [if_neg h, val_neg h, ih nd'.2]
      omega
/-- a number more -/
def more (l : Terms) (w : Wd) (n : Int) : Terms := match val l w with
  | none => l ++ [(w, n)]
  | some m => upd1 l w (m + n)
theorem put_more (l : Terms) (w : Wd) (n : Int) : putK (enc V.int l) (.inr (mk w)) (.int ((val l w).getD 0 + n)) = enc V.int (more l w n) := by
  unfold more
  cases h : val l w with
  | none =>
    show putK _ _ (.int (0 + n)) = _
    rw [Int.zero_add]
    exact put_new h
  | some m => exact put_old h
theorem more_keys (l : Terms) (w : Wd) (n : Int) : ∀ x, x ∈ (more l w n).map (·.1) ↔ x ∈ l.map (·.1) ∨ x = w := by
  intro x
  unfold more
  cases h : val l w with
  | none => simp [List.map_append]
  | some m =>
    show x ∈ (upd1 l w (m + n)).map (·.1) ↔ _
    rw [keys_upd1]
    refine ⟨.inl, fun z => z.elim id fun q => ?_⟩
    rw [q]
    exact List.mem_map_of_mem (f := (·.1)) (val_mem h)
theorem more_nodup {l : Terms} {w : Wd} {n : Int} (nd : (l.map (·.1)).Nodup) : ((more l w n).map (·.1)).Nodup := by
  unfold more
  cases h : val l w with
  | none =>
    show ((l ++ [(w, n)]).map (·.1)).Nodup
    rw [List.map_append]
    refine List.nodup_append.mpr ⟨nd, by simp, fun a ha b hb q => ?_⟩
    simp at hb
    exact val_none.mp h (by rw [← hb, ← q]; exact ha)
  | some m =>
    show ((upd1 l w (m + n)).map (·.1)).Nodup
    rw [keys_upd1]
    exact nd
theorem more_len (l : Terms) (w : Wd) (n : Int) : (more l w n).length ≤ l.length + 1 := by
  unfold more
  cases h : val l w with
  | none => simp
  | some m =>
    show (upd1 l w (m + n)).length ≤ _
    unfold upd1
    rw [List.length_map]
    omega
theorem upd1_none {l : Terms} {w : Wd} (x : Int) (h : w ∉ l.map (·.1)) : upd1 l w x = l := by
  unfold upd1
  conv => rhs; rw [← List.map_id l]
  refine List.map_congr_left fun e he => ?_
  show (if e.1 = w then (e.1, x) else e) = e
  have ne : e.1 ≠ w := fun z => h (z ▸ List.mem_map_of_mem (f := (·.1)) he)
  rw [if_neg ne]
theorem tot_upd1 : ∀ {l : Terms} {w : Wd} {m : Int} (n : Int), (l.map (·.1)).Nodup → val l w = some m → ∀ x, tot (upd1 l w (m + n)) x = tot l x + if w = x then n else 0
  | [], _, _, _, _, h, _ => by simp [val] at h
  | e :: l, w, m, n, nd, h, x => by
    have nd' := List.nodup_cons.mp nd
    by_cases z : e.1 = w
    · rw [val_pos z] at h
      cases h
      have : upd1 (e :: l) w (e.2 + n) = (e.1, e.2 + n) :: upd1 l w (e.2 + n) := by
        show (if e.1 = w then (e.1, e.2 + n) else e) :: _ = _
        rw [if_pos z]
        rfl
      rw [this, upd1_none _ (z ▸ nd'.1)]
      show (if e.1 = x then e.2 + n else 0) + tot l x = (if e.1 = x then e.2 else 0) + tot l x + if w = x then n else 0
      rw [z]
      split <;> omega
    · rw [val_neg z] at h
      have : upd1 (e :: l) w (m + n) = e :: upd1 l w (m + n) := by
        show (if e.1 = w then (e.1, m + n) else e) :: _ = _
        rw [if_neg z]
        rfl
      rw [this]
      show (if e.1 = x then e.2 else 0) + tot (upd1 l w (m + n)) x = (if e.1 = x then e.2 else 0) + tot l x + _
      rw [tot_upd1 n nd'.2 h]
      omega
theorem more_tot {l : Terms} {w : Wd} {n : Int} (nd : (l.map (·.1)).Nodup) (x : Wd) : tot (more l w n) x = tot l x + if w = x then n else 0 := by
  unfold more
  cases h : val l w with
  | none =>
    show tot (l ++ [(w, n)]) x = _
    rw [Tm.tot_app]
    show tot l x + ((if w = x then n else 0) + 0) = _
    omega
  | some m => exact tot_upd1 n nd h x
end Nd
set_option Elab.async false
set_option linter.all false
set_option maxRecDepth 100000
set_option maxHeartbeats 4000000
namespace K15
open PySem PySem.Spec PyProof.Rows L2 Evl Bx
section
variable {P : Program} {w : World} {K : PySem.W.Frag} {mg : Str → Option Value} {base : Heap}
/-- what may be added up without great care: words and numbers of bounded size -/
structure Fine (ts : Tm.Terms) : Prop where
  low : Lows ts
  len : ∀ e ∈ ts, e.1.length ≤ 1000
  few : ts.length ≤ 100000
  num : ∀ e ∈ ts, e.2.natAbs < 2 ^ 4000
theorem sqT_xg {H H' : Hp} {x q C dx : Addr} {fs : List (Str × V)} {xs : List V} (hx : H x = some (.ins C dx fs)) (e : Xg x H H') (h : SqT K H q xs) : SqT K H' q xs := by
  rcases h with (h | ⟨o, h⟩) | h
  · exact .inl (.inl (e q _ (fun z => by rw [z, hx] at h; cases h) h))
  · exact .inl (.inr ⟨o, e q _ (fun z => by rw [z, hx] at h; cases h) h⟩)
  · exact .inr h
theorem TV.xg {x C dx : Addr} {fs : List (Str × V)} : ∀ {H H' : Hp} {vs : List V} {ts : Tm.Terms}, H x = some (.ins C dx fs) → Xg x H H' → TV K H vs ts → TV K H' vs ts
  | _, _, [], [], _, _, _ => trivial
  | _, _, _ :: _, _ :: _, hx, e, ⟨⟨q, r, h⟩, t⟩ => ⟨⟨q, r, sqT_xg hx e h⟩, t.xg hx e⟩
  | _, _, [], _ :: _, _, _, h => h.elim
  | _, _, _ :: _, [], _, _, h => h.elim
theorem sqT_upL {H : Hp} {D q : Addr} {ys zs xs : List V} (hD : H D = some (.lst ys)) (h : SqT K H q xs) : SqT K (upd H D (.lst zs)) q xs := by
  rcases h with (h | ⟨o, h⟩) | h
  · exact .inl (.inl (by rw [upd_ne (fun z => by rw [z, hD] at h; cases h)]; exact h))
  · exact .inl (.inr ⟨o, by rw [upd_ne (fun z => by rw [z, hD] at h; cases h)]; exact h⟩)
  · exact .inr h
theorem TV.upL {D : Addr} {ys zs : List V} : ∀ {H : Hp} {vs : List V} {ts : Tm.Terms}, TV K H vs ts → H D = some (.lst ys) → TV K (upd H D (.lst zs)) vs ts
  | _, [], [], _, _ => trivial
  | _, _ :: _, _ :: _, ⟨⟨q, r, h⟩, t⟩, hD => ⟨⟨q, r, sqT_upL hD h⟩, t.upL hD⟩
  | _, [], _ :: _, h, _ => h.elim
  | _, _ :: _, [], h, _ => h.elim
theorem _root_.Bx.Xg.trans' {x : Addr} {H H1 H2 : Hp} (b : Xg x H1 H2) (a : Ex H H1) : Xg x H H2 := (Xg.of a).trans b
theorem getD_enc (l : Tm.Terms) (w : List Nat) : (valV (Nd.enc V.int l) (.inr (mk w))).getD (.int 0) = .int ((Nd.val l w).getD 0) := by
  rw [Nd.val_enc]
  cases Nd.val l w <;> rfl
theorem take_one {α : Type} {l : List α} {i : Nat} {e : α} (h : l[i]? = some e) : l.take (i + 1) = l.take i ++ [e] := by
  rw [List.take_add_one, h]
  rfl
def sp_init (T : Tx K mg) : Sp := fun vs H Q _ => ∃ x dx a ts, vs = [.ref x, .ref a] ∧ H x = some (.ins T.C_Sum dx []) ∧ TL K H a ts ∧ Fine ts ∧
  ∀ H', Xg x H H' → SumAt T H' (.ref x) (Tm.nf ts) → (∀ d l, H' x = some (.ins T.C_Sum d [("_terms", .ref l)]) → H l = none) → Q .non H'
theorem ok_Sum_init (T : Tx K mg) : FnOk P w K mg base CX0 3 T.a_Sum_init T.fd_Sum_init ["self", "terms"] (sp_init T) := by
  refine T.F_Sum_init.ok sc_Sum_init (fun vs H Q E h => ?_) (fun cdv A outer s H vs Q E hr h => ?_)
  · obtain ⟨_, _, _, _, rfl, _⟩ := h
    rfl
  · obtain ⟨x, dx, a, ts, rfl, hx, ⟨us, hS, hT⟩, fi, q⟩ := h
    refine ⟨_, (pss_cons (ps_if (pt_not (pt_val (pe_call (ok__are_terms T) (hr.mono (by decide)) (by rfl) T.g__are_terms T.F__are_terms.kp (b__are_terms T) .nil pass0 (pa_cons (pv 1) pa_nil)))) (pss_one ps_never) pss_nil) (pss_cons (ps_set (i := 2) sc_Sum_init.nd rfl (by first | exact Or.inl rfl | exact Or.inr rfl) pe_dnewK) (pss_cons (ps_for PassesOwn.never rfl (pi_list (pv 1)) (pg_tup (by rfl) (pgs_cons (pg_name (i := 3) sc_Sum_init.nd rfl (by first | exact Or.inl rfl | exact Or.inr rfl)) (pgs_cons (pg_name (i := 4) sc_Sum_init.nd rfl (by first | exact Or.inl rfl | exact Or.inr rfl)) pgs_nil))) (pss_one (ps_dput (hu_of hr) (pv 2) (pv 3) (pe_op op_add (pe_dget2 (hu_of hr) (pv 2) (pv 3) pe_int ⟨rfl, rfl, rfl, rfl⟩) (pv 4)) rfl))) (pss_one (ps_fld (pv 0) (pe_lc (own := [("word", 3)]) (g := (gName 3))  rfl sc_Sum_init.nd (pi_list (pe_call (ok_in_order T) (hr.mono (by decide)) (by rfl) T.g_in_order T.F_in_order.kp (b_in_order T) .nil pass0 (pa_cons (pe_callTy (call_list_dK rfl) (by rfl) T.n_list (by decide +kernel) (pa_cons (pv 2) pa_nil)) pa_nil))) (blkOk_by (own := [("word", 3)]) (N := N_Sum_init) (sc := defScope s_Sum_init) (by decide +kernel)) (fun _ _ _ _ _ => (pg_name (i := 3) sc_Sum_init.nd rfl (by first | exact Or.inl rfl | exact Or.inr rfl))) (fun _ _ _ _ _ => (pts_one (pt_cmpR op_ne (pe_dget (hu_of hr) (pv 2) (pv 3) (fun _ _ => rfl)) pe_int (nomark _)))) (fun _ _ _ _ _ => (pe_tup (pa_cons (pv 3) (pa_cons (pe_dget (hu_of hr) (pv 2) (pv 3) (fun _ _ => rfl)) pa_nil))))) rfl))))), ?_⟩
    refine ⟨_, rfl, a, ts, rfl, ⟨us, hS, hT⟩, fi.low, true, rfl, iteF ?_⟩
    dsimp only [tNext, tSeq, tAsg, tC, gName]
    intro d hd
    have dx_ne : x ≠ d := ex_ne hx hd
    refine ⟨_, rfl, a, rfl, ⟨_, ex_l (ex_upd hd) hS⟩, for_list (xs := us) (fun i σ H2 => ∃ l y3 y4, σ = [some (.ref x), some (.ref a), some (.ref d), y3, y4] ∧ Ex H H2 ∧ H2 d = some (.dK (Nd.enc V.int l)) ∧ (l.map (·.1)).Nodup ∧ (∀ w, Tm.tot l w = Tm.tot (ts.take i) w) ∧ (∀ e ∈ ts.take i, e.1 ∈ l.map (·.1)) ∧ (∀ v ∈ l.map (·.1), ∃ e ∈ ts.take i, e.1 = v) ∧ l.length ≤ i) ?_ ?_ (fun i v σ H2 hv ⟨l, y3, y4, hσ, e2, hd2, nd, ht, hm, hm2, hl⟩ => ?_) (fun σ H2 ⟨l, y3, y4, hσ, e2, hd2, nd, ht, hm, hm2, hl⟩ => ?_)⟩
    · exact ⟨[], _, _, rfl, ex_upd hd, upd_same, List.nodup_nil, fun _ => rfl, fun e he => by simp at he, fun v hv => by simp at hv, Nat.zero_le _⟩
    · intro i σ H2 _ ⟨l, y3, y4, hσ, e2, _⟩
      exact ex_l e2 hS
    · subst hσ
      obtain ⟨e, z, he, rfl, hz⟩ := hT.at hv
      refine ⟨z, _, rfl, ex_t e2 hz, rfl, _, _, rfl, _, _, rfl, rfl, ?_⟩
      refine ⟨_, rfl, d, rfl, .inl ⟨_, .inl hd2⟩, _, rfl, _, DGet.k (k := .inr (mk e.1)) hd2, _, rfl, _, _, getD_enc l e.1, rfl, ?_⟩
      have hf := fi.few
      have hi : i < ts.length := (List.getElem?_eq_some_iff.mp he).1
      refine ⟨_, rfl, _, rfl, d, _, rfl, DPut.k (k := .inr (mk e.1)) hd2 (by rw [Nd.enc_len]; exact sz_lt (by omega)), Nd.more l e.1 e.2, _, _, rfl, e2.mut hd, by rw [upd_same, Nd.put_more], Nd.more_nodup nd, fun w => ?_, fun f hf => ?_, fun w hw => ?_, ?_⟩
      · rw [Nd.more_tot nd, ht, take_one he, Tm.tot_app]
        show _ = _ + ((if e.1 = w then e.2 else 0) + 0)
        omega
      · rw [take_one he] at hf
        rcases List.mem_append.mp hf with z | z
        · exact (Nd.more_keys l e.1 e.2 f.1).mpr (.inl (hm f z))
        · exact (Nd.more_keys l e.1 e.2 f.1).mpr (.inr (by rw [List.mem_singleton.mp z]))
      · rw [take_one he]
        rcases (Nd.more_keys l e.1 e.2 w).mp hw with z | z
        · obtain ⟨f, hf, q⟩ := hm2 w z
          exact ⟨f, List.mem_append_left _ hf, q⟩
        · exact ⟨e, List.mem_append_right _ (List.mem_singleton.mpr rfl), z.symm⟩
      · have := Nd.more_len l e.1 e.2
        omega
    · subst hσ
      have hul := hT.len
      rw [hul, List.take_length] at ht hm hm2
      have hlen := fi.few
      refine ⟨_, rfl, d, _, rfl, hd2, fun p hp => ?_⟩
      have hlw : ∀ w ∈ l.map (·.1), w.length ≤ 1000 := fun w hw => by
        obtain ⟨e, he, q⟩ := hm2 w hw
        rw [← q]
        exact fi.len e he
      refine ⟨p, l.map (·.1), rfl, .inl (.inl (by rw [upd_same, Nd.enc_keys])), fun w hw => by have := hlw w hw; omega, fun p2 H3 e3 n3 h3 => ⟨p2, rfl, ⟨_, .inl (.inl h3)⟩, fun D nD => ?_⟩⟩
      have e03 : Ex H H3 := (e2.trans (ex_upd hp)).trans e3
      have hd3 : H3 d = some (.dK (Nd.enc V.int l)) := e3 _ _ (ex_upd hp _ _ hd2)
      refine lc_list (xs := (Tm.ord (l.map (·.1))).map tx) (fun i H4 => ∃ acc, Ex H3 H4 ∧ H4 D = some (.lst acc) ∧ acc.length ≤ i ∧ TV K H4 acc (((Tm.ord (l.map (·.1))).take i).filterMap fun w => if Tm.tot ts w = 0 then none else some (w, Tm.tot ts w)))
        ⟨[], ex_upd nD, upd_same, Nat.zero_le _, trivial⟩ (fun i H4 _ ⟨acc, e4, _⟩ => .inl (.inl (e4 _ _ h3))) (fun i v H4 hv ⟨acc, e4, hD, hal, hTV⟩ => ?_) (fun H4 ⟨acc, e4, hD, hal, hTV⟩ => ?_)
      · rw [List.getElem?_map] at hv
        cases hw : (Tm.ord (l.map (·.1)))[i]? with
        | none => rw [hw] at hv; cases hv
        | some w =>
          rw [hw] at hv
          cases hv
          have wm : w ∈ l.map (·.1) := Tm.ord_mem.mp (List.mem_of_getElem? hw)
          have il : i < (Tm.ord (l.map (·.1))).length := (List.getElem?_eq_some_iff.mp hw).1
          rw [Tm.ord_len, List.length_map] at il
          obtain ⟨m, hmv⟩ : ∃ m, Nd.val l w = some m := by
            cases z : Nd.val l w with
            | none => exact absurd wm (Nd.val_none.mp z)
            | some m => exact ⟨m, rfl⟩
          have tm : Tm.tot ts w = m := by
            rw [← ht, Nd.tot_val nd, hmv]
            rfl
          have dg : ∀ {H5 : Hp}, Ex H3 H5 → DGet H5 d (tx w) (some (.int m)) := fun e5 => .inl ⟨_, .inr (mk w), .inl (e5 _ _ hd3), rfl, by rw [Nd.val_enc, hmv]; rfl⟩
          refine ⟨rfl, _, rfl, _, rfl, d, _, rfl, dg e4, rfl, ?_⟩
          rw [take_one hw, List.filterMap_append]
          by_cases z : m = 0
          · refine ⟨false, Rx.ne_same (by rw [z]), iteF ⟨acc, e4, hD, by omega, ?_⟩⟩
            have : List.filterMap (fun w => if Tm.tot ts w = 0 then none else some (w, Tm.tot ts w)) [w] = [] := by rw [List.filterMap_cons_none (by rw [tm, if_pos z])]; rfl
            rw [this, List.append_nil]
            exact hTV
          · refine ⟨true, by rw [decide_eq_false fun q => z (V.int.inj q)]; rfl, iteT ?_⟩
            refine ⟨_, rfl, _, rfl, _, rfl, d, _, rfl, dg e4, sz_of (by show 2 ≤ 100000; omega), fun q nq => ?_⟩
            have nDq : D ≠ q := ex_ne hD nq
            refine ⟨acc, by rw [upd_ne nDq]; exact hD, sz_lt (by omega), acc ++ [.ref q], (e4.trans (ex_upd nq)).mut nD, upd_same, by rw [List.length_append]; show acc.length + 1 ≤ _; omega, ?_⟩
            have : List.filterMap (fun w => if Tm.tot ts w = 0 then none else some (w, Tm.tot ts w)) [w] = [(w, m)] := by rw [List.filterMap_cons_some (by rw [tm, if_neg z])]; rfl
            rw [this]
            have hT1 : TV K (upd (upd H4 q (.tup [tx w, .int m])) D (.lst (acc ++ [.ref q]))) (acc ++ [.ref q]) _ := ((hTV.ex (ex_upd nq)).upL (by rw [upd_ne nDq]; exact hD)).snoc (.inl (.inl (by rw [upd_ne nDq.symm, upd_same])))
            exact hT1
      · rw [List.length_map, List.take_length, Tm.ord_nf nd hm] at hTV
        have e04 := e03.trans e4
        refine ⟨_, rfl, x, _, dx, _, rfl, e04 _ _ hx, T.cl_Sum, T.no_Sum__terms, by decide, ?_⟩
        have nDx : D ≠ x := fun z => by
          have := e03 _ _ hx
          rw [← z, nD] at this
          cases this
        have xg : Xg x H4 (upd H4 x (.ins T.C_Sum dx (putF "_terms" (.ref D) []))) := Xg.upd (Xg.refl _ _)
        exact q _ (xg.trans' e04) ⟨x, dx, D, acc, rfl, upd_same, by rw [upd_ne nDx]; exact hD, hTV.xg (e04 _ _ hx) xg⟩ fun d' l' hl => by
          rw [upd_same] at hl
          cases hl
          exact exn e03 nD
end
end K15
set_option Elab.async false
set_option linter.all false
set_option maxRecDepth 100000
set_option maxHeartbeats 4000000
namespace K15
open PySem PySem.Spec PyProof.Rows L2 Evl Bx
/-- for i in range(a, b) -/
theorem forRg2 {σ : L2.St} {H : Hp} {D : Ends} {tu : TS} {ta : TA} {j : Nat} {a b : Nat} (h : EvA ta σ H [.int (a : Nat), .int (b : Nat)]) (ha : a ≤ b) (hb : b ≤ 100000) (Pv : Nat → L2.St → Hp → Prop) (h0 : ∀ H1, Ex H H1 → Pv 0 σ H1)
    (hs : ∀ i σ' H', a + i < b → Pv i σ' H' → tu { D with nx := Pv (i + 1), ct := Pv (i + 1), bk := D.nx } (σ'.set j (some (.int ((a + i : Nat) : Int)))) H')
    (hd : ∀ σ' H', Pv (b - a) σ' H' → D.nx σ' H') : tFor (iRng2 ta) (gName j) tu D σ H :=
  h H (Ex.refl H) _ fun H1 e => ⟨_, _, rfl, ⟨by omega, by omega, by omega, by omega⟩, by
    have ez : (((b : Nat) : Int) - ((a : Nat) : Int)).toNat = b - a := by omega
    rw [ez]
    refine for_range (lo := ((a : Nat) : Int)) (n := b - a) Pv (h0 H1 e) (fun i σ' H' hi p => ?_) hd
    have ei : ((a : Nat) : Int) + ((i : Nat) : Int) = ((a + i : Nat) : Int) := by omega
    rw [ei]
    exact hs i σ' H' (by omega) p⟩
section
variable {P : Program} {w : World} {K : PySem.W.Frag} {mg : Str → Option Value} {base : Heap}
/-! ### the beginnings of words -/
abbrev nV : Nat → V := fun n => .int (n : Nat)
/-- a dict of words, each with its number -/
def idx (bs : List Tm.Wd) : List (Tm.Wd × Nat) := bs.zipIdx
theorem idx_keys (bs : List Tm.Wd) : (idx bs).map (·.1) = bs := by
  show (List.zipIdx bs).map Prod.fst = bs
  rw [List.zipIdx_map_fst]
theorem idx_snoc (bs : List Tm.Wd) (w : Tm.Wd) : idx (bs ++ [w]) = idx bs ++ [(w, bs.length)] := by
  unfold idx
  rw [List.zipIdx_append]
  simp
theorem idx_len (bs : List Tm.Wd) : (idx bs).length = bs.length := by unfold idx; exact List.length_zipIdx
theorem idx_at {bs : List Tm.Wd} {i : Nat} {e : Tm.Wd × Nat} (h : (idx bs)[i]? = some e) : bs[i]? = some e.1 ∧ e.2 = i := by
  unfold idx at h
  rw [List.getElem?_zipIdx] at h
  cases q : bs[i]? with
  | none => rw [q] at h; cases h
  | some w =>
    rw [q] at h
    cases h
    exact ⟨rfl, Nat.zero_add i⟩
theorem idx_val {bs : List Tm.Wd} (nd : bs.Nodup) {i : Nat} {w : Tm.Wd} (h : bs[i]? = some w) : Nd.val (idx bs) w = some i := by
  refine Nd.mem_val (by rw [idx_keys]; exact nd) (List.mem_of_getElem? (i := i) ?_)
  unfold idx
  rw [List.getElem?_zipIdx, h]
  show some (w, 0 + i) = _
  rw [Nat.zero_add]
theorem idx_none {bs : List Tm.Wd} {w : Tm.Wd} : Nd.val (idx bs) w = none ↔ w ∉ bs := by rw [Nd.val_none, idx_keys]
/-- words, each behind the one without its last letter -/
structure Tree (bs : List Tm.Wd) : Prop where
  nd : bs.Nodup
  root : bs[0]? = some []
  par : ∀ (i : Nat) (w : Tm.Wd), bs[i]? = some w → w ≠ [] → ∃ j, j < i ∧ bs[j]? = some w.dropLast
theorem Tree.one : Tree [[]] := ⟨by simp, rfl, fun i w h n => by
  cases i with
  | zero => cases h; exact absurd rfl n
  | succ i => simp at h⟩
theorem Tree.snoc {bs : List Tm.Wd} {w : Tm.Wd} (t : Tree bs) (n : w ∉ bs) (h : w.dropLast ∈ bs) : Tree (bs ++ [w]) := by
  refine ⟨List.nodup_append.mpr ⟨t.nd, by simp, fun a ha b hb q => n (by rw [← List.mem_singleton.mp hb, ← q]; exact ha)⟩, ?_, fun i v hv nv => ?_⟩
  · have hp : 0 < bs.length := (List.getElem?_eq_some_iff.mp t.root).1
    rw [List.getElem?_append_left hp]
    exact t.root
  · by_cases hi : i < bs.length
    · rw [List.getElem?_append_left hi] at hv
      obtain ⟨j, hj, q⟩ := t.par i v hv nv
      exact ⟨j, hj, by rw [List.getElem?_append_left (by omega)]; exact q⟩
    · rw [List.getElem?_append_right (by omega)] at hv
      have : i - bs.length = 0 := by
        cases z : i - bs.length with
        | zero => rfl
        | succ k => rw [z] at hv; simp at hv
      rw [this] at hv
      cases hv
      obtain ⟨j, hj, q⟩ := List.getElem_of_mem h
      exact ⟨j, by omega, by rw [List.getElem?_append_left hj, List.getElem?_eq_getElem hj, q]⟩
def sp_spots (K : PySem.W.Frag) : Sp := fun vs H Q _ => ∃ (a : Addr) (ws : List Tm.Wd) (m : Nat), vs = [.ref a] ∧ SqL K H a (ws.map tx) ∧ (∀ w ∈ ws, w.length ≤ m) ∧ ws.length * m ≤ 90000 ∧ m ≤ 1000 ∧
  ∀ d H' bs, Ex H H' → H d = none → H' d = some (.dK (Nd.enc nV (idx bs))) → Tree bs → (∀ w ∈ ws, ∀ k ≤ w.length, w.take k ∈ bs) → bs.length ≤ 90001 → Q (.ref d) H'
theorem ok__spots (T : Tx K mg) : FnOk P w K mg base CX0 1 T.a__spots T.fd__spots ["words"] (sp_spots K) := by
  refine T.F__spots.ok sc__spots (fun vs H Q E h => ?_) (fun cdv A outer s H vs Q E hr h => ?_)
  · obtain ⟨_, _, _, rfl, _⟩ := h
    rfl
  · obtain ⟨a, ws, m, rfl, hS, hm, hb, m1, q⟩ := h
    refine ⟨_, (pss_cons (ps_set (i := 1) sc__spots.nd rfl (by first | exact Or.inl rfl | exact Or.inr rfl) (pe_disp (pps_cons pe_str pe_int pps_nil) (by rfl) (by rfl) (fun z => by cases z) (by decide))) (pss_cons (ps_for PassesOwn.never rfl (pi_list (pv 0)) (pg_name (i := 2) sc__spots.nd rfl (by first | exact Or.inl rfl | exact Or.inr rfl)) (pss_one (ps_for PassesOwn.never rfl (pi_range2 (by rfl) T.n_range (pa_cons pe_int (pa_cons (pe_op op_add (pe_callB call_len_str (by rfl) T.n_len (by decide +kernel) (pa_cons (pv 2) pa_nil)) pe_int) pa_nil))) (pg_name (i := 3) sc__spots.nd rfl (by first | exact Or.inl rfl | exact Or.inr rfl)) (pss_cons (ps_set (i := 4) sc__spots.nd rfl (by first | exact Or.inl rfl | exact Or.inr rfl) (pe_slice sl_str (pv 2) po_none (po_some (pv 3)))) (pss_one (ps_if (pt_cmp (pc_dnotin (hu_of hr) (pv 4) (pv 1))) (pss_one (ps_dput (hu_of hr) (pv 1) (pv 4) (pe_callB call_lenD (by rfl) T.n_len (by decide +kernel) (pa_cons (pv 1) pa_nil)) rfl)) pss_nil)))))) (pss_one (ps_ret (pv 1))))), ?_⟩
    dsimp only [tNext, tSeq, tAsg, tC, gName]
    intro d hd
    refine ⟨upd_same, [(.inr (mk []), .int 0)], rfl, by decide, ?_⟩
    refine ⟨_, rfl, a, rfl, ⟨_, ex_l ((ex_upd hd).mut hd) hS⟩, for_list (xs := ws.map tx) (fun i σ H2 => ∃ bs y2 y3 y4, σ = [some (.ref a), some (.ref d), y2, y3, y4] ∧ Ex H H2 ∧ H2 d = some (.dK (Nd.enc nV (idx bs))) ∧ Tree bs ∧ (∀ w ∈ ws.take i, ∀ k ≤ w.length, w.take k ∈ bs) ∧ bs.length ≤ 1 + i * m) ?_ ?_ (fun i v σ H2 hv ⟨bs, y2, y3, y4, hσ, e2, hd2, tr, hc, hl⟩ => ?_) (fun σ H2 ⟨bs, y2, y3, y4, hσ, e2, hd2, tr, hc, hl⟩ => ?_)⟩
    · exact ⟨[[]], _, _, _, rfl, (ex_upd hd).mut hd, upd_same, Tree.one, fun w hw => by simp at hw, by show 1 ≤ _; omega⟩
    · intro i σ H2 _ ⟨bs, _, _, _, _, e2, _⟩
      exact ex_l e2 hS
    · subst hσ
      rw [List.getElem?_map] at hv
      cases hu : ws[i]? with
      | none => rw [hu] at hv; cases hv
      | some u =>
        rw [hu] at hv
        cases hv
        have ul := hm u (List.mem_of_getElem? hu)
        have il : i < ws.length := (List.getElem?_eq_some_iff.mp hu).1
        have im : i * m + m ≤ 90000 := by
          have := Nat.mul_le_mul_right m (show i + 1 ≤ ws.length by omega)
          rw [Nat.add_mul] at this
          omega
        refine forRg2 (a := 1) (b := u.length + 1) (fun H1 e1 Q' q' => ⟨_, rfl, mk u, rfl, by rw [mk_len]; exact sz_of (by omega), _, 1, rfl, rfl, by rw [mk_len]; exact q' H1 (Ex.refl _)⟩) (by omega) (by omega)
          (fun j σ H3 => ∃ bs y3 y4, σ = [some (.ref a), some (.ref d), some (tx u), y3, y4] ∧ Ex H H3 ∧ H3 d = some (.dK (Nd.enc nV (idx bs))) ∧ Tree bs ∧ (∀ w ∈ ws.take i, ∀ k ≤ w.length, w.take k ∈ bs) ∧ (∀ k ≤ j, u.take k ∈ bs) ∧ bs.length ≤ 1 + i * m + j)
          (fun H1 e1 => ⟨bs, _, _, rfl, e2.trans e1, e1 _ _ hd2, tr, hc, fun k hk => ?_, by omega⟩) (fun j σ H3 hj ⟨bs, y3, y4, hσ, e3, hd3, tr, hc, hk, hl⟩ => ?_) (fun σ H3 ⟨bs, y3, y4, hσ, e3, hd3, tr, hc, hk, hl⟩ => ?_)
        · have : k = 0 := by omega
          rw [this]
          exact List.mem_of_getElem? tr.root
        · subst hσ
          refine ⟨_, rfl, _, rfl, _, rfl, mk u, rfl, by rw [mk_len]; exact sz_of (by omega), ?_⟩
          rw [cut_to]
          refine ⟨_, rfl, _, rfl, d, _, rfl, DGet.k (k := .inr (mk (u.take (1 + j)))) hd3, _, rfl, ?_⟩
          rw [Nd.val_enc]
          by_cases hin : u.take (1 + j) ∈ bs
          · obtain ⟨x, hx⟩ : ∃ x, Nd.val (idx bs) (u.take (1 + j)) = some x := by
              cases z : Nd.val (idx bs) (u.take (1 + j)) with
              | none => exact absurd hin (idx_none.mp z)
              | some x => exact ⟨x, rfl⟩
            rw [hx]
            refine iteF ⟨bs, _, _, rfl, e3, hd3, tr, hc, fun k hk' => ?_, by omega⟩
            by_cases z : k ≤ j
            · exact hk k z
            · have : k = 1 + j := by omega
              rw [this]
              exact hin
          · rw [idx_none.mpr hin]
            refine iteT ⟨_, rfl, d, _, rfl, hd3, _, rfl, _, rfl, d, _, rfl, DPut.k (k := .inr (mk (u.take (1 + j)))) hd3 (by rw [Nd.enc_len, idx_len]; exact sz_lt (by omega)), bs ++ [u.take (1 + j)], _, _, rfl, e3.mut hd, ?_, tr.snoc hin ?_, fun w hw k hk => List.mem_append_left _ (hc w hw k hk), fun k hk' => ?_, ?_⟩
            · rw [upd_same, Nd.enc_len, idx_len, Nd.put_new (v := nV) (idx_none.mpr hin), idx_snoc]
            · have : (u.take (1 + j)).dropLast = u.take j := by
                rw [List.dropLast_eq_take, List.length_take, List.take_take]
                congr 1
                omega
              rw [this]
              exact hk j (Nat.le_refl _)
            · by_cases z : k ≤ j
              · exact List.mem_append_left _ (hk k z)
              · have : k = 1 + j := by omega
                rw [this]
                exact List.mem_append_right _ (List.mem_singleton.mpr rfl)
            · rw [List.length_append]
              show bs.length + 1 ≤ _
              omega
        · refine ⟨bs, _, _, _, hσ, e3, hd3, tr, fun w hw k hk' => ?_, ?_⟩
          · rw [take_one hu] at hw
            rcases List.mem_append.mp hw with z | z
            · exact hc w z k hk'
            · rw [List.mem_singleton.mp z] at hk' ⊢
              exact hk k (by omega)
          · have : (i + 1) * m = i * m + m := by rw [Nat.add_mul, Nat.one_mul]
            omega
    · subst hσ
      rw [List.length_map, List.take_length] at hc
      rw [List.length_map] at hl
      exact ⟨_, rfl, q d H2 bs e2 hd hd2 tr hc (by omega)⟩
end
end K15
set_option Elab.async false
set_option linter.all false
set_option maxRecDepth 100000
set_option maxHeartbeats 4000000
/-! Nd2: walks over the items of a dict; lists of tuples -/
namespace Nd
open PySem PySem.Spec PyProof.Rows L2 Evl Bx
/-- for k, v in d.items() -/
theorem for_items {d : Addr} {o : Obj} {kvs : List (Key × V)} {g : TG} {tb : TS} {D : Ends} {σ : L2.St} {H : Hp} (Pv : Nat → L2.St → Hp → Prop) (h0 : Pv 0 σ H) (hl : ∀ i σ H, i ≤ kvs.length → Pv i σ H → H d = some (.frz o (.dK kvs)))
    (hs : ∀ i k v T σ H, kvs[i]? = some (k, v) → Pv i σ H → H T = none → g (.ref T) σ (upd H T (.tup [kV k, v])) fun σ2 H2 => tb { D with nx := Pv (i + 1), ct := Pv (i + 1), bk := D.nx } σ2 H2) (hd : ∀ σ H, Pv kvs.length σ H → D.nx σ H) :
    ∃ W : Nat → Nat → L2.St → Hp → Prop, (∃ m, W 0 m σ H) ∧ ∀ i m σ H, W i m σ H →
      ((Iti d o kvs).stop i H ∧ D.nx σ H) ∨ ((Iti d o kvs).go i H ∧ ∃ N : L2.St → Hp → Prop, (∀ σ' H', N σ' H' → ∃ m', m' < m ∧ W (i + 1) m' σ' H') ∧ ∀ x H', (Iti d o kvs).yld i H x H' → g x σ H' fun σ2 H2 => tb { D with nx := N, ct := N, bk := D.nx } σ2 H2) := by
  refine ⟨fun i m σ H => m = kvs.length - i ∧ i ≤ kvs.length ∧ Pv i σ H, ⟨kvs.length, by simp, Nat.zero_le _, h0⟩, ?_⟩
  rintro i m σ H ⟨rfl, hi, p⟩
  have q := hl i σ H hi p
  by_cases hlt : i < kvs.length
  · refine .inr ⟨⟨q, hlt⟩, Pv (i + 1), fun σ' H' p' => ⟨kvs.length - (i + 1), by omega, rfl, hlt, p'⟩, fun x H' y => ?_⟩
    obtain ⟨T, k, v, hk, rfl, hT, rfl⟩ := y
    exact hs i k v T σ H hk p hT
  · have e : i = kvs.length := by omega
    subst e
    exact .inl ⟨⟨q, Nat.le_refl _⟩, hd σ H p⟩
/-- {.. for k, v in d.items()} -/
theorem dc_items {d : Addr} {o : Obj} {ks : List (Key × V)} {g : TG} {tt : TT} {tk tv : TE} {vs : List Nat} {σ : L2.St} {H1 : Hp} {D : Addr} {Qd : Hp → Prop} (Pv : Nat → Hp → Prop) (h0 : Pv 0 (upd H1 D (.dK []))) (hl : ∀ i H, i ≤ ks.length → Pv i H → H d = some (.frz o (.dK ks)))
    (hs : ∀ i k v T H, ks[i]? = some (k, v) → Pv i H → H T = none → g (.ref T) (wipe σ vs) (upd H T (.tup [kV k, v])) fun σ2 H2 => wipe σ2 vs = wipe σ vs ∧ tt σ2 H2 fun b H3 =>
      if b = true then tk σ2 H3 fun y H4 => tv σ2 H4 fun z H5 => ∃ kvs k, y = kV k ∧ H5 D = some (.dK kvs) ∧ kvs.length < sizeLine ∧ Pv (i + 1) (upd H5 D (.dK (putK kvs k z))) else Pv (i + 1) H3) (hd : ∀ H, Pv ks.length H → Qd H) :
    ∃ W : Nat → Nat → Hp → Prop, (∃ m, W 0 m (upd H1 D (.dK []))) ∧ ∀ i m H, W i m H →
      ((Iti d o ks).stop i H ∧ Qd H) ∨ ((Iti d o ks).go i H ∧ ∃ Nx : Hp → Prop, (∀ H', Nx H' → ∃ m', m' < m ∧ W (i + 1) m' H') ∧ ∀ x H', (Iti d o ks).yld i H x H' → g x (wipe σ vs) H' fun σ2 H2 => wipe σ2 vs = wipe σ vs ∧ tt σ2 H2 fun b H3 =>
        if b = true then tk σ2 H3 fun y H4 => tv σ2 H4 fun z H5 => ∃ kvs k, y = kV k ∧ H5 D = some (.dK kvs) ∧ kvs.length < sizeLine ∧ Nx (upd H5 D (.dK (putK kvs k z))) else Nx H3) := by
  refine ⟨fun i m H => m = ks.length - i ∧ i ≤ ks.length ∧ Pv i H, ⟨ks.length, by simp, Nat.zero_le _, h0⟩, ?_⟩
  rintro i m H ⟨rfl, hi, p⟩
  have q := hl i H hi p
  by_cases hlt : i < ks.length
  · refine .inr ⟨⟨q, hlt⟩, Pv (i + 1), fun H' p' => ⟨ks.length - (i + 1), by omega, rfl, hlt, p'⟩, fun x H' y => ?_⟩
    obtain ⟨T, k, v, hk, rfl, hT, rfl⟩ := y
    exact hs i k v T H hk p hT
  · have e : i = ks.length := by omega
    subst e
    exact .inl ⟨⟨q, Nat.le_refl _⟩, hd H p⟩
/-- [.. for k, v in d.items()] -/
theorem lc_items {d : Addr} {o : Obj} {ks : List (Key × V)} {g : TG} {tt : TT} {te : TE} {vs : List Nat} {σ : L2.St} {H1 : Hp} {D : Addr} {Qd : Hp → Prop} (Pv : Nat → Hp → Prop) (h0 : Pv 0 (upd H1 D (.lst []))) (hl : ∀ i H, i ≤ ks.length → Pv i H → H d = some (.frz o (.dK ks)))
    (hs : ∀ i k v T H, ks[i]? = some (k, v) → Pv i H → H T = none → g (.ref T) (wipe σ vs) (upd H T (.tup [kV k, v])) fun σ2 H2 => wipe σ2 vs = wipe σ vs ∧ tt σ2 H2 fun b H3 =>
      if b = true then te σ2 H3 fun y H4 => ∃ acc, H4 D = some (.lst acc) ∧ acc.length < sizeLine ∧ Pv (i + 1) (upd H4 D (.lst (acc ++ [y]))) else Pv (i + 1) H3) (hd : ∀ H, Pv ks.length H → Qd H) :
    ∃ W : Nat → Nat → Hp → Prop, (∃ m, W 0 m (upd H1 D (.lst []))) ∧ ∀ i m H, W i m H →
      ((Iti d o ks).stop i H ∧ Qd H) ∨ ((Iti d o ks).go i H ∧ ∃ Nx : Hp → Prop, (∀ H', Nx H' → ∃ m', m' < m ∧ W (i + 1) m' H') ∧ ∀ x H', (Iti d o ks).yld i H x H' → g x (wipe σ vs) H' fun σ2 H2 => wipe σ2 vs = wipe σ vs ∧ tt σ2 H2 fun b H3 =>
        if b = true then te σ2 H3 fun y H4 => ∃ acc, H4 D = some (.lst acc) ∧ acc.length < sizeLine ∧ Nx (upd H4 D (.lst (acc ++ [y]))) else Nx H3) := by
  refine ⟨fun i m H => m = ks.length - i ∧ i ≤ ks.length ∧ Pv i H, ⟨ks.length, by simp, Nat.zero_le _, h0⟩, ?_⟩
  rintro i m H ⟨rfl, hi, p⟩
  have q := hl i H hi p
  by_cases hlt : i < ks.length
  · refine .inr ⟨⟨q, hlt⟩, Pv (i + 1), fun H' p' => ⟨ks.length - (i + 1), by omega, rfl, hlt, p'⟩, fun x H' y => ?_⟩
    obtain ⟨T, k, v, hk, rfl, hT, rfl⟩ := y
    exact hs i k v T H hk p hT
  · have e : i = ks.length := by omega
    subst e
    exact .inl ⟨⟨q, Nat.le_refl _⟩, hd H p⟩
/-! ### lists of tuples -/
section
variable {β : Type} {f : β → List V} {K : PySem.W.Frag}
def TW (K : PySem.W.Frag) (H : Hp) (f : β → List V) : List V → List β → Prop
  | [], [] => True
  | v :: vs, b :: bs => (∃ q, v = .ref q ∧ SqT K H q (f b)) ∧ TW K H f vs bs
  | _, _ => False
theorem TW.len : ∀ {H : Hp} {vs : List V} {bs : List β}, TW K H f vs bs → vs.length = bs.length
  | _, [], [], _ => rfl
  | _, _ :: _, _ :: _, h => congrArg (· + 1) (TW.len h.2)
  | _, [], _ :: _, h => h.elim
  | _, _ :: _, [], h => h.elim
theorem TW.imp : ∀ {H H' : Hp} {vs : List V} {bs : List β}, (∀ q xs, SqT K H q xs → SqT K H' q xs) → TW K H f vs bs → TW K H' f vs bs
  | _, _, [], [], _, _ => trivial
  | _, _, _ :: _, _ :: _, x, ⟨⟨q, e, h⟩, r⟩ => ⟨⟨q, e, x _ _ h⟩, r.imp x⟩
  | _, _, [], _ :: _, _, h => h.elim
  | _, _, _ :: _, [], _, h => h.elim
theorem TW.ex {H H' : Hp} {vs : List V} {bs : List β} (h : TW K H f vs bs) (x : Ex H H') : TW K H' f vs bs := h.imp fun _ _ z => ex_t x z
theorem TW.at : ∀ {H : Hp} {vs : List V} {bs : List β} {i : Nat} {v : V}, TW K H f vs bs → vs[i]? = some v → ∃ b q, bs[i]? = some b ∧ v = .ref q ∧ SqT K H q (f b)
  | _, v :: _, b :: _, 0, _, ⟨⟨q, h, t⟩, _⟩, x => by
    cases x
    exact ⟨b, q, rfl, h, t⟩
  | _, _ :: _, _ :: _, i + 1, _, ⟨_, r⟩, x => TW.at (i := i) r x
  | _, [], _, _, _, _, x => by simp at x
  | _, _ :: _, [], _, _, h, _ => h.elim
theorem TW.snoc : ∀ {H : Hp} {vs : List V} {bs : List β} {q : Addr} {b : β}, TW K H f vs bs → SqT K H q (f b) → TW K H f (vs ++ [.ref q]) (bs ++ [b])
  | _, [], [], q, b, _, h => ⟨⟨q, rfl, h⟩, trivial⟩
  | _, _ :: _, _ :: _, _, _, ⟨a, r⟩, h => ⟨a, r.snoc h⟩
  | _, [], _ :: _, _, _, h, _ => h.elim
  | _, _ :: _, [], _, _, h, _ => h.elim
theorem TW.app : ∀ {H : Hp} {vs us : List V} {bs cs : List β}, TW K H f vs bs → TW K H f us cs → TW K H f (vs ++ us) (bs ++ cs)
  | _, [], _, [], _, _, h => h
  | _, _ :: _, _, _ :: _, _, ⟨a, r⟩, h => ⟨a, r.app h⟩
  | _, [], _, _ :: _, _, h, _ => h.elim
  | _, _ :: _, _, [], _, h, _ => h.elim
theorem TW.rev : ∀ {H : Hp} {vs : List V} {bs : List β}, TW K H f vs bs → TW K H f vs.reverse bs.reverse
  | _, [], [], _ => trivial
  | _, v :: vs, b :: bs, ⟨a, r⟩ => by
    rw [List.reverse_cons, List.reverse_cons]
    exact r.rev.app ⟨a, trivial⟩
  | _, [], _ :: _, h => h.elim
  | _, _ :: _, [], h => h.elim
end
end Nd
set_option Elab.async false
set_option linter.all false
set_option maxRecDepth 100000
set_option maxHeartbeats 4000000
namespace K15
open PySem PySem.Spec PyProof.Rows L2 Evl Bx
section
variable {P : Program} {w : World} {K : PySem.W.Frag} {mg : Str → Option Value} {base : Heap}
/-! ### which beginnings grow by a letter -/
def stepOf (bs : List Tm.Wd) (c : Nat) (e : Tm.Wd × Nat) : Option (Nat × Nat) := if e.1.getLast? = some c then some (e.2, (Nd.val (idx bs) e.1.dropLast).getD 0) else none
def prs (bs : List Tm.Wd) (c i : Nat) : List (Nat × Nat) := ((idx bs).take i).filterMap (stepOf bs c)
abbrev prV : Nat × Nat → List V := fun e => [nV e.1, nV e.2]
/-- what stands in the dict of steps -/
structure StepsTo (K : PySem.W.Frag) (H0 H : Hp) (p : Addr) (bs : List Tm.Wd) (i : Nat) (sl : List (Tm.Wd × Addr)) : Prop where
  at_ : H p = some (.dK (Nd.enc V.ref sl))
  none_ : ∀ c, Nd.val sl [c] = none → prs bs c i = []
  some_ : ∀ u l, Nd.val sl u = some l → ∃ c qs, u = [c] ∧ H l = some (.lst qs) ∧ H0 l = none ∧ l ≠ p ∧ Nd.TW K H prV qs (prs bs c i)
  apart : ∀ u v l, Nd.val sl u = some l → Nd.val sl v = some l → u = v
  few : sl.length ≤ i
def Steps (K : PySem.W.Frag) (H : Hp) (p : Addr) (bs : List Tm.Wd) : Prop := ∃ sl, H p = some (.dK (Nd.enc V.ref sl)) ∧ (∀ c, Nd.val sl [c] = none → prs bs c bs.length = []) ∧ ∀ c l, Nd.val sl [c] = some l → ∃ qs, H l = some (.lst qs) ∧ Nd.TW K H prV qs (prs bs c bs.length)
theorem Steps.ex {H H' : Hp} {p : Addr} {bs : List Tm.Wd} (h : Steps K H p bs) (e : Ex H H') : Steps K H' p bs := by
  obtain ⟨sl, a, b, c⟩ := h
  exact ⟨sl, e _ _ a, b, fun d l hl => let ⟨qs, x, y⟩ := c d l hl; ⟨qs, e _ _ x, y.ex e⟩⟩
theorem cut_butlast (u : List Nat) : cutS (mk u) none (some (-1)) = mk u.dropLast := by
  rw [cut_mk]
  have z : HT.sIx u.length 0 none = 0 := rfl
  rw [z, List.drop_zero, Nat.sub_zero, List.dropLast_eq_take]
  cases h : u.length with
  | zero => rw [List.length_eq_zero_iff.mp h]; simp
  | succ n =>
    have e : HT.sIx (n + 1) (n + 1) (some (-1)) = n := Dx.sIx_neg1 n (n + 1)
    rw [e]
    rfl
theorem prs_next {bs : List Tm.Wd} {i : Nat} {e : Tm.Wd × Nat} (h : (idx bs)[i]? = some e) (c : Nat) : prs bs c (i + 1) = prs bs c i ++ (stepOf bs c e).toList := by
  unfold prs
  rw [take_one h, List.filterMap_append]
  congr 1
theorem StepsTo.same {H0 H H' : Hp} {p : Addr} {bs : List Tm.Wd} {i : Nat} {sl : List (Tm.Wd × Addr)} (st : StepsTo K H0 H p bs i sl) (e : Ex H H') (h : ∀ c, prs bs c (i + 1) = prs bs c i) : StepsTo K H0 H' p bs (i + 1) sl :=
  ⟨e _ _ st.at_, fun c hc => by rw [h]; exact st.none_ c hc, fun u l hl => by
    obtain ⟨c, qs, a, b, d, np, t⟩ := st.some_ u l hl
    exact ⟨c, qs, a, e _ _ b, d, np, by rw [h]; exact t.ex e⟩, st.apart, by have := st.few; omega⟩
theorem Tree.len {bs : List Tm.Wd} (t : Tree bs) : ∀ (n i : Nat) (w : Tm.Wd), i ≤ n → bs[i]? = some w → w.length ≤ i := by
  intro n
  induction n with
  | zero =>
    intro i w hi h
    have : i = 0 := by omega
    subst this
    rw [t.root] at h
    cases h
    exact Nat.zero_le _
  | succ n ih =>
    intro i w hi h
    by_cases z : w = []
    · rw [z]
      exact Nat.zero_le _
    · obtain ⟨j, hj, q⟩ := t.par i w h z
      have := ih j _ (by omega) q
      rw [List.length_dropLast] at this
      omega
theorem last_at {α : Type} {xs : List α} (n : xs ≠ []) : atI xs (-1) = some (xs.getLast n) := by
  have hp := List.length_pos_iff.mpr n
  have h : xs[xs.length - 1]? = some (xs.getLast n) := by rw [List.getLast_eq_getElem]; exact List.getElem?_eq_getElem (by omega)
  unfold atI ixN
  rw [if_neg (by decide), if_pos (by omega)]
  have e : ((-1 : Int) + ((xs.length : Nat) : Int)).toNat = xs.length - 1 := by omega
  rw [e]
  exact h
theorem prs_len (bs : List Tm.Wd) (c i : Nat) : (prs bs c i).length ≤ i := by
  unfold prs
  refine Nat.le_trans (List.length_filterMap_le _ _) ?_
  rw [List.length_take]
  omega
theorem sqT_upD {H : Hp} {D q : Addr} {ks ls : List (Key × V)} {xs : List V} (hD : H D = some (.dK ks)) (h : SqT K H q xs) : SqT K (upd H D (.dK ls)) q xs := by
  rcases h with (h | ⟨o, h⟩) | h
  · exact .inl (.inl (by rw [upd_ne (fun z => by rw [z, hD] at h; cases h)]; exact h))
  · exact .inl (.inr ⟨o, by rw [upd_ne (fun z => by rw [z, hD] at h; cases h)]; exact h⟩)
  · exact .inr h
theorem StepsTo.grow {H0 H H' : Hp} {p l z : Addr} {bs : List Tm.Wd} {i c : Nat} {e : Tm.Wd × Nat} {sl sl' : List (Tm.Wd × Addr)} {qs : List V} {b : Nat × Nat} (st : StepsTo K H0 H p bs i sl) (he : (idx bs)[i]? = some e) (hs : stepOf bs c e = some b) (ho : ∀ c', c' ≠ c → stepOf bs c' e = none)
    (hp : H' p = some (.dK (Nd.enc V.ref sl'))) (hl : H' l = some (.lst (qs ++ [.ref z]))) (hz : SqT K H' z (prV b)) (ht : Nd.TW K H' prV qs (prs bs c i)) (n0 : H0 l = none) (np : l ≠ p) (oth : ∀ u l', Nd.val sl u = some l' → u ≠ [c] → l' ≠ l ∧ H' l' = H l') (keep : ∀ q xs, SqT K H q xs → SqT K H' q xs)
    (vc : Nd.val sl' [c] = some l) (vo : ∀ u, u ≠ [c] → Nd.val sl' u = Nd.val sl u) (fw : sl'.length ≤ i + 1) : StepsTo K H0 H' p bs (i + 1) sl' := by
  refine ⟨hp, fun c' h => ?_, fun u l' h => ?_, fun u v l' h1 h2 => ?_, fw⟩
  · have n : c' ≠ c := fun q => by rw [q, vc] at h; cases h
    rw [prs_next he, ho c' n]
    have := st.none_ c' (by rw [← vo _ (fun q => n (List.cons.inj q).1)]; exact h)
    rw [this]
    rfl
  · by_cases n : u = [c]
    · subst n
      rw [vc] at h
      cases h
      refine ⟨c, _, rfl, hl, n0, np, ?_⟩
      rw [prs_next he, hs]
      exact ht.snoc hz
    · rw [vo u n] at h
      obtain ⟨c', rs, a, b', d, np', t⟩ := st.some_ u l' h
      refine ⟨c', rs, a, by rw [(oth u l' h n).2]; exact b', d, np', ?_⟩
      have n2 : c' ≠ c := fun q => n (by rw [a, q])
      rw [prs_next he, ho c' n2]
      show Nd.TW K H' prV rs (prs bs c' i ++ [])
      rw [List.append_nil]
      exact t.imp keep
  · by_cases n : u = [c]
    · by_cases m : v = [c]
      · rw [n, m]
      · rw [n, vc] at h1
        cases h1
        rw [vo v m] at h2
        exact absurd rfl (oth v l h2 m).1
    · by_cases m : v = [c]
      · rw [m, vc] at h2
        cases h2
        rw [vo u n] at h1
        exact absurd rfl (oth u l h1 n).1
      · rw [vo u n] at h1
        rw [vo v m] at h2
        exact st.apart u v l' h1 h2
def sp_steps (K : PySem.W.Frag) : Sp := fun vs H Q _ => ∃ (d : Addr) (bs : List Tm.Wd), vs = [.ref d] ∧ H d = some (.dK (Nd.enc nV (idx bs))) ∧ Tree bs ∧ bs.length ≤ 90001 ∧ ∀ p H', Ex H H' → H p = none → Steps K H' p bs → Q (.ref p) H'
theorem ok__steps (T : Tx K mg) : FnOk P w K mg base CX0 1 T.a__steps T.fd__steps ["spots"] (sp_steps K) := by
  refine T.F__steps.ok sc__steps (fun vs H Q E h => ?_) (fun cdv A outer s H vs Q E hr h => ?_)
  · obtain ⟨_, _, rfl, _⟩ := h
    rfl
  · obtain ⟨d, bs, rfl, hd, tr, hb, q⟩ := h
    refine ⟨_, (pss_cons (ps_set (i := 1) sc__steps.nd rfl (by first | exact Or.inl rfl | exact Or.inr rfl) pe_dnewK) (pss_cons (ps_lock (ps_for PassesOwn.never rfl (pi_items (pv 0)) (pg_tup (by rfl) (pgs_cons (pg_name (i := 2) sc__steps.nd rfl (by first | exact Or.inl rfl | exact Or.inr rfl)) (pgs_cons (pg_name (i := 3) sc__steps.nd rfl (by first | exact Or.inl rfl | exact Or.inr rfl)) pgs_nil))) (pss_one (ps_if (pt_cmpR op_ne (pv 2) pe_str (nomark _)) (pss_one (ps_expr (pe_bm PySem.F.plainAttrs_list PySem.F.slot_list_append PySem.F.type_list_append mt_append (pe_dsetd (pv 1) (pe_ix ix_str (pv 2) (pe_un un_neg pe_int) (fun _ _ => rfl)) (pe_lst pa_nil) ⟨rfl, rfl, rfl, rfl⟩) (pa_cons (pe_tup (pa_cons (pv 3) (pa_cons (pe_dget (hu_of hr) (pv 0) (pe_slice sl_str (pv 2) po_none (po_some (pe_un un_neg pe_int))) (fun _ _ => rfl)) pa_nil))) pa_nil)))) pss_nil)))) (pss_one (ps_ret (pv 1))))), ?_⟩
    dsimp only [tNext, tSeq, tAsg, tC, gName]
    intro p hp
    have pd : d ≠ p := ex_ne hd hp
    refine ⟨d, .dK (Nd.enc nV (idx bs)), by rw [upd_ne pd]; exact hd, trivial, fun od => ?_⟩
    refine ⟨_, rfl, d, _, _, rfl, upd_same, Nd.for_items (fun i σ H2 => ∃ sl y2 y3, σ = [some (.ref d), some (.ref p), y2, y3] ∧ Ex (upd H d (.frz od (.dK (Nd.enc nV (idx bs))))) H2 ∧ StepsTo K (upd H d (.frz od (.dK (Nd.enc nV (idx bs))))) H2 p bs i sl) ?_ ?_ (fun i k v z σ H2 hk ⟨sl, y2, y3, hσ, e2, st⟩ hz => ?_) (fun σ H2 ⟨sl, y2, y3, hσ, e2, st⟩ => ?_)⟩
    · refine ⟨[], _, _, rfl, fun b o hb => ?_, ⟨by rw [upd_ne pd.symm, upd_same]; rfl, fun c _ => rfl, (fun u l h => by cases h), (fun u v l h => by cases h), Nat.zero_le _⟩⟩
      by_cases z : b = d
      · subst z
        rw [upd_same] at hb ⊢
        exact hb
      · rw [upd_ne z] at hb ⊢
        rw [upd_ne (ex_ne hb hp)]
        exact hb
    · intro i σ H2 _ ⟨sl, _, _, _, e2, _⟩
      exact e2 _ _ upd_same
    · subst hσ
      obtain ⟨e, he, rfl, rfl⟩ := Nd.enc_at hk
      obtain ⟨he1, he2⟩ := idx_at he
      have e3 := ex_upd (o := .tup [kV (Sum.inr (mk e.1)), nV e.2]) hz
      refine ⟨z, _, rfl, .inl (.inl upd_same), rfl, _, _, rfl, _, _, rfl, rfl, ?_⟩
      by_cases n : e.1 = []
      · refine ⟨_, rfl, rfl, false, Rx.ne_same (by rw [n]; rfl), iteF ⟨sl, _, _, rfl, e2.trans e3, st.same e3 fun c => ?_⟩⟩
        rw [prs_next he]
        have : stepOf bs c e = none := by unfold stepOf; rw [n]; rfl
        rw [this]
        exact List.append_nil _
      · have ne : decide (tx e.1 = V.str (PySem.Str.ofString "")) = false := decide_eq_false fun z => n ((tx_inj (l := e.1) (m := [])).mp (z.trans (by rfl)))
        refine ⟨_, rfl, rfl, true, by show V.bl (!decide (tx e.1 = V.str (PySem.Str.ofString ""))) = _; rw [ne]; rfl, iteT ?_⟩
        have ib : i < bs.length := (List.getElem?_eq_some_iff.mp he1).1
        have el := tr.len i i e.1 (Nat.le_refl _) he1
        obtain ⟨c, hc⟩ : ∃ c, c = e.1.getLast n := ⟨_, rfl⟩
        have gl : e.1.getLast? = some c := by rw [List.getLast?_eq_getLast n, hc]
        obtain ⟨j, hj, hpar⟩ := tr.par i e.1 he1 n
        have vj := idx_val tr.nd hpar
        have hs : stepOf bs c e = some (i, j) := by
          unfold stepOf
          rw [if_pos gl, vj, he2]
          rfl
        have ho : ∀ c', c' ≠ c → stepOf bs c' e = none := fun c' h => by
          unfold stepOf
          rw [if_neg (fun q => h (by rw [gl] at q; exact (Option.some.inj q).symm))]
        have few := st.few
        have hdf := e2 _ _ (upd_same (H := H) (a := d) (o := .frz od (.dK (Nd.enc nV (idx bs)))))
        refine ⟨_, rfl, p, rfl, .inl ⟨_, .inl (e3 _ _ st.at_)⟩, _, rfl, _, rfl, mk e.1, _, c, rfl, rfl, by rw [mk_len]; exact sz_of (by omega), by rw [hc]; exact last_at n, Nat.zero_le _, fun l0 hl0 => ?_⟩
        have e4 := e3.trans (ex_upd (o := .lst []) hl0)
        refine ⟨_, .inr (mk [c]), e4 _ _ st.at_, rfl, by rw [Nd.enc_len]; exact sz_lt (by omega), fun v hv => ?_, fun hv => ?_⟩
        · rw [Nd.val_enc] at hv
          obtain ⟨l, hvl, rfl⟩ := Option.map_eq_some_iff.mp hv
          obtain ⟨c', qs, hc', hl, n0, np, tw⟩ := st.some_ _ l hvl
          cases hc'
          have hl5 := e4 _ _ hl
          refine ⟨.inl ⟨rfl, qs, .inl (.inl hl5)⟩, _, rfl, _, rfl, _, rfl, _, rfl, _, rfl, mk e.1, rfl, by rw [mk_len]; exact sz_of (by omega), d, nV j, rfl, .inl ⟨_, .inr (mk e.1.dropLast), .inr ⟨od, e4 _ _ hdf⟩, by rw [cut_butlast]; rfl, by rw [Nd.val_enc, vj]; rfl⟩, sz_of (by show 2 ≤ 100000; omega), fun t ht => ?_⟩
          have e5 := e4.trans (ex_upd (o := .tup [nV e.2, nV j]) ht)
          have hl6 := e5 _ _ hl
          have lt : l ≠ t := ex_ne hl5 ht
          have tl : t ≠ l := fun q => lt q.symm
          have ql := tw.len
          have := prs_len bs c i
          have pl : p ≠ l := fun q => np q.symm
          refine ⟨l, qs, _, rfl, rfl, hl6, sz_lt (by omega), sl, _, _, rfl, (e2.trans e5).mut n0, ?_⟩
          have keep : ∀ q xs, SqT K H2 q xs → SqT K (upd (upd (upd (upd H2 z (.tup [kV (Sum.inr (mk e.1)), nV e.2])) l0 (.lst [])) t (.tup [nV e.2, nV j])) l (.lst (qs ++ [.ref t]))) q xs := fun q xs h => sqT_upL hl6 (ex_t e5 h)
          refine st.grow he hs ho (l := l) (z := t) (qs := qs) ?_ upd_same (.inl (.inl ?_)) (tw.imp keep) n0 np (fun u l' hu hn => ?_) keep hvl (fun u _ => rfl) (by omega)
          · rw [upd_ne pl]
            exact e5 _ _ st.at_
          · rw [upd_ne tl, upd_same, he2]
          · have ll : l' ≠ l := fun q => hn (st.apart u [c] l (q ▸ hu) hvl)
            refine ⟨ll, ?_⟩
            obtain ⟨_, rs, _, hr', _⟩ := st.some_ u l' hu
            rw [upd_ne ll, e5 _ _ hr', hr']
        · rw [Nd.val_enc] at hv
          have hvn : Nd.val sl [c] = none := by
            cases q : Nd.val sl [c] with
            | none => rfl
            | some l => rw [q] at hv; cases hv
          rw [Nd.put_new (v := V.ref) hvn]
          have pl0 : p ≠ l0 := ex_ne (e3 _ _ st.at_) hl0
          have l0p : l0 ≠ p := fun q => pl0 q.symm
          have n2 : H2 l0 = none := exn e3 hl0
          have dl0 : d ≠ l0 := ex_ne (e3 _ _ hdf) hl0
          have p4 := e4 _ _ st.at_
          have tw : prs bs c i = [] := st.none_ c hvn
          refine ⟨.inl ⟨rfl, [], .inl (.inl (by rw [upd_ne l0p, upd_same]))⟩, _, rfl, _, rfl, _, rfl, _, rfl, _, rfl, mk e.1, rfl, by rw [mk_len]; exact sz_of (by omega), d, nV j, rfl, .inl ⟨_, .inr (mk e.1.dropLast), .inr ⟨od, by rw [upd_ne pd]; exact e4 _ _ hdf⟩, by rw [cut_butlast]; rfl, by rw [Nd.val_enc, vj]; rfl⟩, sz_of (by show 2 ≤ 100000; omega), fun t ht => ?_⟩
          have tp : t ≠ p := fun q => by rw [q, upd_same] at ht; cases ht
          have pt : p ≠ t := fun q => tp q.symm
          have ht4 : upd (upd H2 z (.tup [kV (Sum.inr (mk e.1)), nV e.2])) l0 (.lst []) t = none := by rw [upd_ne tp] at ht; exact ht
          have l0t : l0 ≠ t := ex_ne upd_same ht4
          have tl0 : t ≠ l0 := fun q => l0t q.symm
          have np0 : upd H d (.frz od (.dK (Nd.enc nV (idx bs)))) p = none := by rw [upd_ne pd.symm]; exact hp
          have n00 : upd H d (.frz od (.dK (Nd.enc nV (idx bs)))) l0 = none := exn e2 n2
          refine ⟨l0, [], _, rfl, rfl, by rw [upd_ne l0t, upd_ne l0p, upd_same], by decide, sl ++ [([c], l0)], _, _, rfl, (((e2.trans e4).mut np0).mut (exn (e2.trans e4) ht4)).mut n00, ?_⟩
          have keep : ∀ q xs, SqT K H2 q xs → SqT K (upd (upd (upd (upd (upd H2 z (.tup [kV (Sum.inr (mk e.1)), nV e.2])) l0 (.lst [])) p (.dK (Nd.enc V.ref (sl ++ [([c], l0)])))) t (.tup [nV e.2, nV j])) l0 (.lst ([] ++ [.ref t]))) q xs := fun q xs h =>
            sqT_upL (ys := []) (by rw [upd_ne l0t, upd_ne l0p, upd_same]) (ex_t (ex_upd ht) (sqT_upD p4 (ex_t e4 h)))
          have vo : ∀ u, u ≠ [c] → Nd.val (sl ++ [([c], l0)]) u = Nd.val sl u := fun u hu => by
            unfold Nd.val
            rw [List.find?_append]
            cases q : sl.find? (fun e => decide (e.1 = u)) with
            | some x => rfl
            | none => rw [List.find?_cons, decide_eq_false (fun q => hu q.symm)]; rfl
          have vc : Nd.val (sl ++ [([c], l0)]) [c] = some l0 := by
            unfold Nd.val at hvn ⊢
            rw [List.find?_append]
            cases q : sl.find? (fun e => decide (e.1 = [c])) with
            | some x => rw [q] at hvn; cases hvn
            | none => rw [List.find?_cons, decide_eq_true rfl]; rfl
          refine st.grow he hs ho (l := l0) (z := t) (qs := []) ?_ upd_same (.inl (.inl ?_)) (by rw [tw]; trivial) n00 l0p (fun u l' hu hn => ?_) keep vc vo (by rw [List.length_append]; show sl.length + 1 ≤ _; omega)
          · rw [upd_ne pl0, upd_ne pt, upd_same]
          · rw [upd_ne tl0, upd_same, he2]
          · obtain ⟨_, rs, _, hr', _, np', _⟩ := st.some_ u l' hu
            have ll : l' ≠ l0 := ex_ne hr' n2
            have lt : l' ≠ t := ex_ne (e4 _ _ hr') ht4
            refine ⟨ll, ?_⟩
            rw [upd_ne ll, upd_ne lt, upd_ne np', e4 _ _ hr', hr']
    · subst hσ
      refine ⟨e2 _ _ upd_same, _, rfl, ?_⟩
      have ep : Ex H (upd H2 d (.dK (Nd.enc nV (idx bs)))) := fun b o hb => by
        by_cases z : b = d
        · subst z
          rw [upd_same]
          rw [hd] at hb
          exact hb
        · rw [upd_ne z]
          exact e2 _ _ (by rw [upd_ne z]; exact hb)
      rw [Nd.enc_len, idx_len] at st
      have hdf := e2 _ _ (upd_same (H := H) (a := d) (o := .frz od (.dK (Nd.enc nV (idx bs)))))
      refine q p _ ep hp ⟨sl, by rw [upd_ne pd.symm]; exact st.at_, st.none_, fun c l hl => ?_⟩
      obtain ⟨c', qs, a, b, _, _, t⟩ := st.some_ _ l hl
      cases a
      refine ⟨qs, by rw [upd_ne (fun z => by rw [z, hdf] at b; cases b)]; exact b, t.imp fun q xs h => ?_⟩
      rcases h with (h | ⟨o, h⟩) | h
      · exact .inl (.inl (by rw [upd_ne (fun z => by rw [z, hdf] at h; cases h)]; exact h))
      · exact .inl (.inr ⟨o, by rw [upd_ne (fun z => by rw [z, hdf] at h; cases h)]; exact h⟩)
      · exact .inr h
end
end K15
set_option Elab.async false
set_option linter.all false
set_option maxRecDepth 100000
set_option maxHeartbeats 4000000
/-! Tm3: sizes of terms; their parts at front and back -/
namespace Tm
open Mx
/-- the numbers' sizes in all -/
def size (ts : Terms) : Nat := (ts.map fun e => e.2.natAbs).sum
theorem size_cons (e : Wd × Int) (r : Terms) : size (e :: r) = e.2.natAbs + size r := by unfold size; rw [List.map_cons, List.sum_cons]
theorem size_mem {ts : Terms} {e : Wd × Int} (h : e ∈ ts) : e.2.natAbs ≤ size ts := by
  induction ts with
  | nil => cases h
  | cons x r ih =>
    rw [size_cons]
    rcases List.mem_cons.mp h with z | z
    · rw [z]; omega
    · have := ih z; omega
theorem ins_size (w : Wd) (n : Int) : ∀ ts : Terms, size (ins w n ts) ≤ n.natAbs + size ts
  | [] => by
    unfold ins
    split
    · exact Nat.zero_le _
    · rw [size_cons]; exact Nat.le_refl _
  | x :: r => by
    have ih := ins_size w n r
    unfold ins
    split
    · split
      · omega
      · rw [size_cons]; exact Nat.le_refl _
    · split
      · split
        · rw [size_cons]; omega
        · rw [size_cons, size_cons]
          show (x.2 + n).natAbs + size r ≤ _
          omega
      · rw [size_cons, size_cons]; omega
theorem nf_size (ts : Terms) : size (nf ts) ≤ size ts := by
  induction ts with
  | nil => exact Nat.le_refl _
  | cons e r ih =>
    rw [size_cons]
    have := ins_size e.1 e.2 (nf r)
    show size (ins e.1 e.2 (nf r)) ≤ _
    omega
theorem ins_len (w : Wd) (n : Int) : ∀ ts : Terms, (ins w n ts).length ≤ ts.length + 1
  | [] => by
    unfold ins
    split <;> simp
  | x :: r => by
    have ih := ins_len w n r
    unfold ins
    split
    · split <;> simp
    · split
      · split
        · simp
          omega
        · simp
      · simp only [List.length_cons]
        omega
theorem nf_len (ts : Terms) : (nf ts).length ≤ ts.length := by
  induction ts with
  | nil => exact Nat.le_refl _
  | cons e r ih =>
    have := ins_len e.1 e.2 (nf r)
    show (ins e.1 e.2 (nf r)).length ≤ r.length + 1
    omega
theorem filterMap_size {f : Wd × Int → Option (Wd × Int)} (h : ∀ e x, f e = some x → x.2.natAbs ≤ e.2.natAbs) : ∀ ts : Terms, size (ts.filterMap f) ≤ size ts
  | [] => Nat.le_refl _
  | e :: r => by
    have ih := filterMap_size h r
    rw [size_cons]
    cases z : f e with
    | none => rw [List.filterMap_cons_none z]; omega
    | some x =>
      rw [List.filterMap_cons_some z, size_cons]
      have := h e x z
      omega
/-- the terms that begin with a word, without it -/
def frontOf (u : Wd) (e : Wd × Int) : Option (Wd × Int) := if e.1.take u.length = u then some (e.1.drop u.length, e.2) else none
def front (u : Wd) (ts : Terms) : Terms := ts.filterMap (frontOf u)
/-- the terms that end with a word, without it -/
def backOf (u : Wd) (e : Wd × Int) : Option (Wd × Int) := if e.1.drop (e.1.length - u.length) = u then some (e.1.take (e.1.length - u.length), e.2) else none
def back (u : Wd) (ts : Terms) : Terms := ts.filterMap (backOf u)
/-- what may be reckoned with: small letters, and sizes that are not too great -/
structure Fit (ts : Terms) : Prop where
  low : ∀ e ∈ ts, ∀ c ∈ e.1, 97 ≤ c ∧ c ≤ 122
  num : size ts < 2 ^ 4000
  fit : ∃ m, (∀ e ∈ ts, e.1.length ≤ m) ∧ ts.length * m ≤ 90000 ∧ m ≤ 1000
  few : ts.length ≤ 90000
theorem Fit.nf {ts : Terms} (h : Fit ts) : Fit (nf ts) := by
  obtain ⟨m, h1, h2, h3⟩ := h.fit
  have hl := nf_len ts
  refine ⟨fun e he => ?_, Nat.lt_of_le_of_lt (nf_size ts) h.num, ⟨m, fun e he => ?_, Nat.le_trans (Nat.mul_le_mul_right m hl) h2, h3⟩, Nat.le_trans hl h.few⟩
  · obtain ⟨x, hx, q⟩ := nf_words ts e he
    rw [← q]
    exact h.low x hx
  · obtain ⟨x, hx, q⟩ := nf_words ts e he
    rw [← q]
    exact h1 x hx
theorem Fit.map {ts : Terms} {f : Wd × Int → Option (Wd × Int)} (h : Fit ts) (hf : ∀ e x, f e = some x → x.2 = e.2 ∧ x.1.length ≤ e.1.length ∧ ∀ c ∈ x.1, c ∈ e.1) : Fit (ts.filterMap f) := by
  obtain ⟨m, h1, h2, h3⟩ := h.fit
  have hl : (ts.filterMap f).length ≤ ts.length := List.length_filterMap_le _ _
  refine ⟨fun x hx c hc => ?_, Nat.lt_of_le_of_lt (filterMap_size (fun e x z => by rw [(hf e x z).1]; exact Nat.le_refl _) ts) h.num, ⟨m, fun x hx => ?_, Nat.le_trans (Nat.mul_le_mul_right m hl) h2, h3⟩, Nat.le_trans hl h.few⟩
  · obtain ⟨e, he, q⟩ := List.mem_filterMap.mp hx
    exact h.low e he c ((hf e x q).2.2 c hc)
  · obtain ⟨e, he, q⟩ := List.mem_filterMap.mp hx
    exact Nat.le_trans (hf e x q).2.1 (h1 e he)
theorem Fit.front {ts : Terms} (h : Fit ts) (u : Wd) : Fit (front u ts) := h.map fun e x z => by
  unfold frontOf at z
  split at z
  · cases z
    exact ⟨rfl, by show (e.1.drop _).length ≤ _; rw [List.length_drop]; omega, fun c hc => List.mem_of_mem_drop hc⟩
  · cases z
theorem Fit.back {ts : Terms} (h : Fit ts) (u : Wd) : Fit (back u ts) := h.map fun e x z => by
  unfold backOf at z
  split at z
  · cases z
    exact ⟨rfl, by show (e.1.take _).length ≤ _; rw [List.length_take]; omega, fun c hc => List.mem_of_mem_take hc⟩
  · cases z
theorem front_cons (u : Wd) (e : Wd × Int) (r : Terms) : front u (e :: r) = (frontOf u e).toList ++ front u r := by
  unfold front
  cases z : frontOf u e with
  | none => rw [List.filterMap_cons_none z]; rfl
  | some x => rw [List.filterMap_cons_some z]; rfl
theorem back_cons (u : Wd) (e : Wd × Int) (r : Terms) : back u (e :: r) = (backOf u e).toList ++ back u r := by
  unfold back
  cases z : backOf u e with
  | none => rw [List.filterMap_cons_none z]; rfl
  | some x => rw [List.filterMap_cons_some z]; rfl
/-- the numbers of a front part: those of the words behind it -/
theorem front_tot (u : Wd) (ts : Terms) (w : Wd) : tot (front u ts) w = tot ts (u ++ w) := by
  induction ts with
  | nil => rfl
  | cons e r ih =>
    rw [front_cons, tot_app, ih]
    show _ = (if e.1 = u ++ w then e.2 else 0) + tot r (u ++ w)
    congr 1
    unfold frontOf
    by_cases h : e.1.take u.length = u
    · rw [if_pos h]
      show (if e.1.drop u.length = w then e.2 else 0) + 0 = _
      rw [Int.add_zero]
      have he : e.1 = u ++ e.1.drop u.length := by
        conv => lhs; rw [← List.take_append_drop u.length e.1, h]
      by_cases q : e.1.drop u.length = w
      · rw [if_pos q, if_pos (by rw [← q]; exact he)]
      · rw [if_neg q, if_neg fun z => q (by rw [z, List.drop_left])]
    · rw [if_neg h, if_neg fun z => h (by rw [z, List.take_left])]
      rfl
theorem back_tot (u : Wd) (ts : Terms) (w : Wd) : tot (back u ts) w = tot ts (w ++ u) := by
  induction ts with
  | nil => rfl
  | cons e r ih =>
    rw [back_cons, tot_app, ih]
    show _ = (if e.1 = w ++ u then e.2 else 0) + tot r (w ++ u)
    congr 1
    unfold backOf
    by_cases h : e.1.drop (e.1.length - u.length) = u
    · rw [if_pos h]
      show (if e.1.take (e.1.length - u.length) = w then e.2 else 0) + 0 = _
      rw [Int.add_zero]
      have he : e.1 = e.1.take (e.1.length - u.length) ++ u := by
        conv => lhs; rw [← List.take_append_drop (e.1.length - u.length) e.1, h]
      by_cases q : e.1.take (e.1.length - u.length) = w
      · rw [if_pos q, if_pos (by rw [← q]; exact he)]
      · rw [if_neg q, if_neg fun z => q (by
          rw [z, List.length_append, Nat.add_sub_cancel, List.take_left])]
    · rw [if_neg h, if_neg fun z => h (by rw [z, List.length_append, Nat.add_sub_cancel, List.drop_left])]
      rfl
end Tm
set_option Elab.async false
set_option linter.all false
set_option maxRecDepth 100000
set_option maxHeartbeats 4000000
/-! Tm4: terms put together from sorted words -/
namespace Tm
open Mx
theorem tot_filter (ts : Terms) (w : Wd) : ((ts.filter fun e => decide (e.1 = w)).map (·.2)).sum = tot ts w := by
  induction ts with
  | nil => rfl
  | cons e r ih =>
    show _ = (if e.1 = w then e.2 else 0) + tot r w
    by_cases h : e.1 = w
    · rw [List.filter_cons_of_pos (by rw [decide_eq_true h]), List.map_cons, List.sum_cons, ih, if_pos h]
    · rw [List.filter_cons_of_neg (by rw [decide_eq_false h]; decide), ih, if_neg h]
      omega
/-- what is found when the first so many words are seen -/
structure Seen (ts : Terms) (ws : List Wd) (i : Nat) (F : Terms) : Prop where
  nf : Nf F
  num : ∀ e ∈ F, e.2 = tot ts e.1 ∧ e.1 ∈ ws.take i
  all : ∀ w ∈ ws.take i, tot ts w ≠ 0 → (w, tot ts w) ∈ F
  few : F.length ≤ i
theorem Seen.zero (ts : Terms) (ws : List Wd) : Seen ts ws 0 [] := ⟨⟨List.Pairwise.nil, fun e h => by cases h⟩, fun e h => (by cases h), fun w h => by simp at h, Nat.zero_le _⟩
theorem Seen.same {ts : Terms} {ws : List Wd} {i : Nat} {F : Terms} {w : Wd} (s : Seen ts ws i F) (h : ws[i]? = some w) (o : w ∈ ws.take i ∨ tot ts w = 0) : Seen ts ws (i + 1) F := by
  have e : ws.take (i + 1) = ws.take i ++ [w] := by rw [List.take_add_one, h]; rfl
  refine ⟨s.nf, fun x hx => ⟨(s.num x hx).1, by rw [e]; exact List.mem_append_left _ (s.num x hx).2⟩, fun v hv nz => ?_, by have := s.few; omega⟩
  rw [e] at hv
  rcases List.mem_append.mp hv with z | z
  · exact s.all v z nz
  · rw [List.mem_singleton] at z
    subst z
    rcases o with o | o
    · exact s.all v o nz
    · exact absurd o nz
theorem Seen.more {ts : Terms} {ws : List Wd} {i : Nat} {F : Terms} {w : Wd} (s : Seen ts ws i F) (h : ws[i]? = some w) (lt : ∀ v ∈ ws.take i, wlt v w) (nz : tot ts w ≠ 0) : Seen ts ws (i + 1) (F ++ [(w, tot ts w)]) := by
  have e : ws.take (i + 1) = ws.take i ++ [w] := by rw [List.take_add_one, h]; rfl
  refine ⟨⟨?_, fun x hx => ?_⟩, fun x hx => ?_, fun v hv nv => ?_, ?_⟩
  · rw [List.map_append]
    refine List.pairwise_append.mpr ⟨s.nf.1, List.pairwise_singleton _ _, fun a ha b hb => ?_⟩
    rw [List.mem_singleton.mp hb]
    obtain ⟨x, hx, rfl⟩ := List.mem_map.mp ha
    exact lt _ (s.num x hx).2
  · rcases List.mem_append.mp hx with z | z
    · exact s.nf.2 x z
    · rw [List.mem_singleton.mp z]
      exact nz
  · rw [e]
    rcases List.mem_append.mp hx with z | z
    · exact ⟨(s.num x z).1, List.mem_append_left _ (s.num x z).2⟩
    · rw [List.mem_singleton.mp z]
      exact ⟨rfl, List.mem_append_right _ (List.mem_singleton.mpr rfl)⟩
  · rw [e] at hv
    rcases List.mem_append.mp hv with z | z
    · exact List.mem_append_left _ (s.all v z nv)
    · rw [List.mem_singleton.mp z]
      exact List.mem_append_right _ (List.mem_singleton.mpr rfl)
  · rw [List.length_append]
    have := s.few
    show F.length + 1 ≤ _
    omega
theorem Seen.done {ts : Terms} {ws : List Wd} {F : Terms} (s : Seen ts ws ws.length F) (h : ∀ e ∈ ts, e.1 ∈ ws) : F = Tm.nf ts := by
  refine nf_eq s.nf fun w => ?_
  by_cases z : tot ts w = 0
  · rw [z]
    refine tot_none fun e he q => ?_
    have := (s.num e he).1
    rw [q, z] at this
    exact s.nf.2 e he this
  · obtain ⟨e, he, q⟩ := Nf.mem_tot z
    have := s.all w (by rw [List.take_length]; exact q ▸ h e he) z
    exact s.nf.tot_mem _ this
/-- of sorted words, one that is not the one ahead of it comes behind all of them -/
theorem sorted_new {ws : List Wd} (p : ws.Pairwise fun a b => ¬ wlt b a) {i : Nat} {u w : Wd} (hw : ws[i + 1]? = some w) (hu : ws[i]? = some u) (n : w ≠ u) : ∀ v ∈ ws.take (i + 1), wlt v w := by
  intro v hv
  obtain ⟨j, hj⟩ := List.getElem?_of_mem hv
  have jl : j < i + 1 := by
    have := (List.getElem?_eq_some_iff.mp hj).1
    rw [List.length_take] at this
    omega
  rw [List.getElem?_take_of_lt jl] at hj
  obtain ⟨j1, j2⟩ := List.getElem?_eq_some_iff.mp hj
  obtain ⟨i1, i2⟩ := List.getElem?_eq_some_iff.mp hu
  obtain ⟨k1, k2⟩ := List.getElem?_eq_some_iff.mp hw
  have uw : wlt u w := by
    have := List.pairwise_iff_getElem.mp p i (i + 1) i1 k1 (by omega)
    rw [i2, k2] at this
    rcases wlt_tri u w with z | z | z
    · exact z
    · exact absurd z.symm n
    · exact absurd z this
  by_cases ji : j = i
  · subst ji
    rw [i2] at j2
    rw [← j2]
    exact uw
  · have := List.pairwise_iff_getElem.mp p j i j1 i1 (by omega)
    rw [j2, i2] at this
    rcases wlt_tri v u with z | z | z
    · exact wlt_trans z uw
    · rw [z]; exact uw
    · exact absurd z this
end Tm
set_option Elab.async false
set_option linter.all false
set_option maxRecDepth 100000
set_option maxHeartbeats 4000000
/-! Tm5: worths at joined texts -/
namespace Tm
open Mx
theorem worth_cons (e : Wd × Int) (r : Terms) (t : Wd) : worth (e :: r) t = e.2 * ((cnt e.1 t : Nat) : Int) + worth r t := by
  unfold worth
  rw [List.map_cons, List.sum_cons]
theorem worth_app (a b : Terms) (t : Wd) : worth (a ++ b) t = worth a t + worth b t := by
  induction a with
  | nil => show _ = 0 + _; rw [Int.zero_add]; rfl
  | cons e r ih =>
    rw [List.cons_append, worth_cons, worth_cons, ih]
    omega
/-- what a word gives for a beginning of it -/
def fr (u w t : Wd) : Int := if w.take u.length = u then ((cnt (w.drop u.length) t : Nat) : Int) else 0
def bk (u w t : Wd) : Int := if w.drop (w.length - u.length) = u then ((cnt (w.take (w.length - u.length)) t : Nat) : Int) else 0
theorem worth_front (u t : Wd) (ts : Terms) : worth (front u ts) t = (ts.map fun e => e.2 * fr u e.1 t).sum := by
  induction ts with
  | nil => rfl
  | cons e r ih =>
    rw [front_cons, worth_app, ih, List.map_cons, List.sum_cons]
    congr 1
    unfold frontOf fr
    by_cases h : e.1.take u.length = u
    · rw [if_pos h, if_pos h]
      show worth [(e.1.drop u.length, e.2)] t = _
      rw [worth_cons]
      exact Int.add_zero _
    · rw [if_neg h, if_neg h, Int.mul_zero]
      rfl
theorem worth_back (u t : Wd) (ts : Terms) : worth (back u ts) t = (ts.map fun e => e.2 * bk u e.1 t).sum := by
  induction ts with
  | nil => rfl
  | cons e r ih =>
    rw [back_cons, worth_app, ih, List.map_cons, List.sum_cons]
    congr 1
    unfold backOf bk
    by_cases h : e.1.drop (e.1.length - u.length) = u
    · rw [if_pos h, if_pos h]
      show worth [(e.1.take (e.1.length - u.length), e.2)] t = _
      rw [worth_cons]
      exact Int.add_zero _
    · rw [if_neg h, if_neg h, Int.mul_zero]
      rfl
theorem gap_front (ts : Terms) (c : Nat) (t : Wd) : worth ts (c :: t) - worth ts t = worth (front [c] ts) t := by
  rw [worth_front]
  induction ts with
  | nil => rfl
  | cons e r ih =>
    rw [worth_cons, worth_cons, List.map_cons, List.sum_cons, ← ih, cnt_front]
    unfold fr
    show e.2 * (((cnt e.1 t + if e.1.take 1 = [c] then cnt (e.1.drop 1) t else 0 : Nat)) : Int) + _ - _ = e.2 * (if e.1.take 1 = [c] then ((cnt (e.1.drop 1) t : Nat) : Int) else 0) + _
    split
    · rw [Int.natCast_add, Int.mul_add]
      omega
    · rw [Nat.add_zero, Int.mul_zero]
      omega
theorem gap_back (ts : Terms) (c : Nat) (t : Wd) : worth ts (t ++ [c]) - worth ts t = worth (back [c] ts) t := by
  rw [worth_back]
  induction ts with
  | nil => rfl
  | cons e r ih =>
    rw [worth_cons, worth_cons, List.map_cons, List.sum_cons, ← ih, cnt_back]
    unfold bk
    show e.2 * (((cnt e.1 t + if e.1.drop (e.1.length - 1) = [c] then cnt (e.1.take (e.1.length - 1)) t else 0 : Nat)) : Int) + _ - _ = e.2 * (if e.1.drop (e.1.length - 1) = [c] then ((cnt (e.1.take (e.1.length - 1)) t : Nat) : Int) else 0) + _
    split
    · rw [Int.natCast_add, Int.mul_add]
      omega
    · rw [Nat.add_zero, Int.mul_zero]
      omega
theorem sum_perm {l m : List Int} (h : l.Perm m) : l.sum = m.sum := by
  induction h with
  | nil => rfl
  | cons x _ ih => rw [List.sum_cons, List.sum_cons, ih]
  | swap x y l =>
    rw [List.sum_cons, List.sum_cons, List.sum_cons, List.sum_cons]
    omega
  | trans _ _ a b => rw [a, b]
theorem sum_filter {α : Type} (p : α → Bool) (f : α → Int) (l : List α) : (l.map fun x => if p x = true then f x else 0).sum = ((l.filter p).map f).sum := by
  induction l with
  | nil => rfl
  | cons x l ih =>
    rw [List.map_cons, List.sum_cons, ih]
    cases h : p x with
    | true =>
      rw [if_pos rfl, List.filter_cons_of_pos h, List.map_cons, List.sum_cons]
    | false =>
      rw [if_neg (by decide), List.filter_cons_of_neg (by rw [h]; decide)]
      omega
theorem sum_swap {α β : Type} (f : α → Int) (g : β → Int) (h : α → β → Int) (l : List α) (m : List β) : (l.map fun a => f a * (m.map fun b => g b * h a b).sum).sum = (m.map fun b => g b * (l.map fun a => f a * h a b).sum).sum := by
  induction m with
  | nil =>
    show (l.map fun a => f a * 0).sum = 0
    induction l with
    | nil => rfl
    | cons a l ih => rw [List.map_cons, List.sum_cons, ih, Int.mul_zero]; rfl
  | cons b m ih =>
    rw [List.map_cons, List.sum_cons, ← ih]
    clear ih
    induction l with
    | nil => show (0 : Int) = g b * 0 + 0; rw [Int.mul_zero]; rfl
    | cons a l ih =>
      simp only [List.map_cons, List.sum_cons] at ih ⊢
      rw [ih, Int.mul_add, Int.mul_add]
      have : f a * (g b * h a b) = g b * (f a * h a b) := by rw [← Int.mul_assoc, ← Int.mul_assoc, Int.mul_comm (f a) (g b)]
      rw [this]
      omega
/-- all beginnings of a word -/
theorem takes_nodup (w : Wd) : ((List.range (w.length + 1)).map fun k => w.take k).Nodup := by
  refine List.pairwise_map.mpr ?_
  refine List.Pairwise.imp_of_mem (fun {a b} ha hb (h : a < b) e => ?_) List.pairwise_lt_range
  have := congrArg List.length e
  rw [List.length_take, List.length_take] at this
  have := List.mem_range.mp hb
  omega
theorem sum_takes {F : List Wd} (nd : F.Nodup) {w : Wd} (all : ∀ k ≤ w.length, w.take k ∈ F) (f : Wd → Int) : (F.map fun u => if w.take u.length = u then f u else 0).sum = ((List.range (w.length + 1)).map fun k => f (w.take k)).sum := by
  have e1 := sum_filter (fun u : Wd => decide (w.take u.length = u)) f F
  simp only [decide_eq_true_eq] at e1
  rw [e1]
  have perm : (F.filter fun u => decide (w.take u.length = u)).Perm ((List.range (w.length + 1)).map fun k => w.take k) := by
    refine (List.perm_ext_iff_of_nodup (nd.filter _) (takes_nodup w)).mpr fun u => ?_
    rw [List.mem_filter, List.mem_map]
    constructor
    · rintro ⟨_, h⟩
      have h := of_decide_eq_true h
      refine ⟨u.length, List.mem_range.mpr ?_, h⟩
      have := congrArg List.length h
      rw [List.length_take] at this
      omega
    · rintro ⟨k, hk, rfl⟩
      have hk := List.mem_range.mp hk
      refine ⟨all k (by omega), decide_eq_true ?_⟩
      rw [List.length_take, Nat.min_eq_left (by omega)]
  rw [sum_perm (perm.map f), List.map_map]
  rfl
theorem joined {F : List Wd} (nd : F.Nodup) {ts : Terms} (all : ∀ e ∈ ts, ∀ k ≤ e.1.length, e.1.take k ∈ F) (s t : Wd) : (F.map fun u => ((cnt u s : Nat) : Int) * worth (nf (front u ts)) t).sum = worth ts (s ++ t) := by
  have e1 : (F.map fun u => ((cnt u s : Nat) : Int) * worth (nf (front u ts)) t) = F.map fun u => ((cnt u s : Nat) : Int) * (ts.map fun e => e.2 * fr u e.1 t).sum := List.map_congr_left fun u _ => by rw [worth_nf, worth_front]
  rw [e1, sum_swap (fun u => ((cnt u s : Nat) : Int)) (fun e : Wd × Int => e.2) (fun u e => fr u e.1 t)]
  unfold worth
  congr 1
  refine List.map_congr_left fun e he => ?_
  congr 1
  rw [cnt_cuts]
  have e2 : (F.map fun u => ((cnt u s : Nat) : Int) * fr u e.1 t) = F.map fun u => if e.1.take u.length = u then ((cnt u s : Nat) : Int) * ((cnt (e.1.drop u.length) t : Nat) : Int) else 0 := List.map_congr_left fun u _ => by
    unfold fr
    split
    · rfl
    · rw [Int.mul_zero]
  rw [e2, sum_takes nd (all e he) fun u => ((cnt u s : Nat) : Int) * ((cnt (e.1.drop u.length) t : Nat) : Int)]
  congr 1
  refine List.map_congr_left fun k hk => ?_
  have := List.mem_range.mp hk
  rw [List.length_take, Nat.min_eq_left (by omega)]
/-- the same from the other end: F holds the beginnings of the turned words -/
theorem joined_back {F : List Wd} (nd : F.Nodup) {ts : Terms} (all : ∀ e ∈ ts, ∀ k ≤ e.1.length, e.1.reverse.take k ∈ F) (s t : Wd) : ((F.map List.reverse).map fun u => ((cnt u t : Nat) : Int) * worth (nf (back u ts)) s).sum = worth ts (s ++ t) := by
  have e1 : ((F.map List.reverse).map fun u => ((cnt u t : Nat) : Int) * worth (nf (back u ts)) s) = F.map fun u => ((cnt u.reverse t : Nat) : Int) * (ts.map fun e => e.2 * bk u.reverse e.1 s).sum := by
    rw [List.map_map]
    exact List.map_congr_left fun u _ => by
      show ((cnt u.reverse t : Nat) : Int) * worth (nf (back u.reverse ts)) s = _
      rw [worth_nf, worth_back]
  rw [e1, sum_swap (fun u : Wd => ((cnt u.reverse t : Nat) : Int)) (fun e : Wd × Int => e.2) (fun u e => bk u.reverse e.1 s)]
  unfold worth
  congr 1
  refine List.map_congr_left fun e he => ?_
  congr 1
  rw [cnt_cuts]
  have e2 : (F.map fun u => ((cnt u.reverse t : Nat) : Int) * bk u.reverse e.1 s) = F.map fun u => if e.1.reverse.take u.length = u then ((cnt u.reverse t : Nat) : Int) * ((cnt (e.1.take (e.1.length - u.length)) s : Nat) : Int) else 0 := List.map_congr_left fun u _ => by
    unfold bk
    have iff : e.1.drop (e.1.length - u.reverse.length) = u.reverse ↔ e.1.reverse.take u.length = u := by
      rw [List.length_reverse, List.take_reverse]
      constructor
      · intro h; rw [h, List.reverse_reverse]
      · intro h; rw [← h, List.reverse_reverse, List.length_reverse, List.length_drop]; congr 1; omega
    by_cases h : e.1.reverse.take u.length = u
    · rw [if_pos (iff.mpr h), if_pos h, List.length_reverse]
    · rw [if_neg (fun z => h (iff.mp z)), if_neg h, Int.mul_zero]
  rw [e2, sum_takes nd (w := e.1.reverse) (fun k hk => all e he k (by rw [List.length_reverse] at hk; exact hk)) fun u => ((cnt u.reverse t : Nat) : Int) * ((cnt (e.1.take (e.1.length - u.length)) s : Nat) : Int)]
  rw [List.length_reverse]
  have rv : ((List.range (e.1.length + 1)).map fun k => ((cnt (e.1.take k) s : Nat) : Int) * ((cnt (e.1.drop k) t : Nat) : Int)).sum = (((List.range (e.1.length + 1)).reverse).map fun k => ((cnt (e.1.take k) s : Nat) : Int) * ((cnt (e.1.drop k) t : Nat) : Int)).sum := sum_perm ((List.reverse_perm _).symm.map _)
  rw [rv]
  congr 1
  refine List.ext_getElem? fun i => ?_
  rw [List.getElem?_map, List.getElem?_map]
  by_cases hi : i < e.1.length + 1
  · rw [List.getElem?_range hi, List.getElem?_reverse (by rw [List.length_range]; exact hi), List.length_range, List.getElem?_range (by omega)]
    show some _ = some _
    congr 1
    have a1 : (e.1.reverse.take i).reverse = e.1.drop (e.1.length - i) := by rw [List.take_reverse, List.reverse_reverse]
    have a2 : e.1.length + 1 - 1 - i = e.1.length - i := by omega
    show ((cnt (e.1.reverse.take i).reverse t : Nat) : Int) * ((cnt (e.1.take (e.1.length - (e.1.reverse.take i).length)) s : Nat) : Int) = ((cnt (e.1.take (e.1.length + 1 - 1 - i)) s : Nat) : Int) * ((cnt (e.1.drop (e.1.length + 1 - 1 - i)) t : Nat) : Int)
    rw [a1, a2, List.length_take, List.length_reverse, Nat.min_eq_left (by omega), Int.mul_comm]
  · rw [List.getElem?_eq_none (by rw [List.length_range]; omega), List.getElem?_eq_none (by rw [List.length_reverse, List.length_range]; omega)]
    rfl
/-! ### parts of parts; turned words -/
def turn (ts : Terms) : Terms := ts.map fun e => (e.1.reverse, e.2)
theorem turn_tot (ts : Terms) (w : Wd) : tot (turn ts) w = tot ts w.reverse := by
  induction ts with
  | nil => rfl
  | cons e r ih =>
    show (if e.1.reverse = w then e.2 else 0) + tot (turn r) w = (if e.1 = w.reverse then e.2 else 0) + tot r w.reverse
    rw [ih]
    congr 1
    by_cases h : e.1.reverse = w
    · rw [if_pos h, if_pos (by rw [← h, List.reverse_reverse])]
    · rw [if_neg h, if_neg fun z => h (by rw [z, List.reverse_reverse])]
theorem front_nf (u : Wd) (ts : Terms) : nf (front u (nf ts)) = nf (front u ts) := nf_congr fun w => by rw [front_tot, front_tot, nf_tot]
theorem back_nf (u : Wd) (ts : Terms) : nf (back u (nf ts)) = nf (back u ts) := nf_congr fun w => by rw [back_tot, back_tot, nf_tot]
theorem front_front (u v : Wd) (ts : Terms) : nf (front v (nf (front u ts))) = nf (front (u ++ v) ts) := nf_congr fun w => by rw [front_tot, nf_tot, front_tot, front_tot, List.append_assoc]
theorem back_back (u v : Wd) (ts : Terms) : nf (back v (nf (back u ts))) = nf (back (v ++ u) ts) := nf_congr fun w => by rw [back_tot, nf_tot, back_tot, back_tot, List.append_assoc]
theorem back_front (u v : Wd) (ts : Terms) : nf (back v (nf (front u ts))) = nf (front u (nf (back v ts))) := nf_congr fun w => by rw [back_tot, nf_tot, front_tot, front_tot, nf_tot, back_tot, List.append_assoc]
theorem back_turn (u : Wd) (ts : Terms) : nf (back u.reverse (nf (turn ts))) = nf (turn (nf (front u ts))) := nf_congr fun w => by rw [back_tot, nf_tot, turn_tot, turn_tot, nf_tot, front_tot, List.reverse_append, List.reverse_reverse]
theorem front_nil (ts : Terms) : front [] ts = ts := by
  induction ts with
  | nil => rfl
  | cons e r ih =>
    rw [front_cons, ih]
    have : frontOf [] e = some e := by
      unfold frontOf
      rw [if_pos (by rfl)]
      rfl
    rw [this]
    rfl
theorem back_nil (ts : Terms) : back [] ts = ts := by
  induction ts with
  | nil => rfl
  | cons e r ih =>
    rw [back_cons, ih]
    unfold backOf
    have : e.1.drop (e.1.length - ([] : Wd).length) = [] := by rw [show ([] : Wd).length = 0 from rfl, Nat.sub_zero, List.drop_length]
    rw [if_pos this, show ([] : Wd).length = 0 from rfl, Nat.sub_zero, List.take_length]
    rfl
end Tm
set_option Elab.async false
set_option linter.all false
set_option maxRecDepth 100000
set_option maxHeartbeats 4000000
/-! Tm6: series of words (as functions of the word read from its end), letters and letters undone; terms moved by a series -/
namespace Tm
open Mx
abbrev Ser := Wd → Int
def one : Ser
  | [] => 1
  | _ :: _ => 0
def mul1 (f : Ser) (c : Nat) : Ser
  | [] => f []
  | x :: r => f (x :: r) + if x = c then f r else 0
def div1 (f : Ser) (c : Nat) : Ser
  | [] => f []
  | x :: r => f (x :: r) - if x = c then div1 f c r else 0
theorem mul_div (f : Ser) (c : Nat) : ∀ r, mul1 (div1 f c) c r = f r
  | [] => rfl
  | x :: r => by
    show (f (x :: r) - if x = c then div1 f c r else 0) + (if x = c then div1 f c r else 0) = _
    omega
theorem div_mul (f : Ser) (c : Nat) : ∀ r, div1 (mul1 f c) c r = f r
  | [] => rfl
  | x :: r => by
    show (f (x :: r) + if x = c then f r else 0) - (if x = c then div1 (mul1 f c) c r else 0) = _
    rw [div_mul f c r]
    omega
theorem mul_congr {f g : Ser} (h : ∀ r, f r = g r) (c : Nat) : ∀ r, mul1 f c r = mul1 g c r
  | [] => h []
  | x :: r => by
    show f (x :: r) + (if x = c then f r else 0) = g (x :: r) + if x = c then g r else 0
    rw [h, h]
theorem div_congr {f g : Ser} (h : ∀ r, f r = g r) (c : Nat) : ∀ r, div1 f c r = div1 g c r
  | [] => h []
  | x :: r => by
    show f (x :: r) - (if x = c then div1 f c r else 0) = g (x :: r) - if x = c then div1 g c r else 0
    rw [h, div_congr h c r]
/-- f times g -/
def conv (f : Ser) : Ser → Ser
  | g, [] => f [] * g []
  | g, x :: r => f (x :: r) * g [] + conv f (fun s => g (x :: s)) r
theorem conv_congr (f : Ser) : ∀ (r : Wd) {g h : Ser}, (∀ s, g s = h s) → conv f g r = conv f h r
  | [], g, h, e => by
    show f [] * g [] = f [] * h []
    rw [e]
  | x :: r, g, h, e => by
    show f (x :: r) * g [] + conv f (fun s => g (x :: s)) r = f (x :: r) * h [] + conv f (fun s => h (x :: s)) r
    rw [e, conv_congr f r (fun s => e (x :: s))]
theorem conv_add (f : Ser) : ∀ (r : Wd) (g h : Ser), conv f (fun s => g s + h s) r = conv f g r + conv f h r
  | [], g, h => Int.mul_add _ _ _
  | x :: r, g, h => by
    show f (x :: r) * (g [] + h []) + conv f (fun s => g (x :: s) + h (x :: s)) r = (f (x :: r) * g [] + conv f (fun s => g (x :: s)) r) + (f (x :: r) * h [] + conv f (fun s => h (x :: s)) r)
    rw [conv_add f r (fun s => g (x :: s)) (fun s => h (x :: s)), Int.mul_add]
    omega
theorem conv_zero (f : Ser) : ∀ r : Wd, conv f (fun _ => 0) r = 0
  | [] => Int.mul_zero _
  | x :: r => by
    show f (x :: r) * 0 + conv f (fun _ => 0) r = 0
    rw [conv_zero f r, Int.mul_zero]
    rfl
theorem conv_one (f : Ser) : ∀ r : Wd, conv f one r = f r
  | [] => Int.mul_one _
  | x :: r => by
    show f (x :: r) * 1 + conv f (fun _ => 0) r = _
    rw [conv_zero, Int.mul_one, Int.add_zero]
theorem conv_mul (f g : Ser) (c : Nat) : ∀ r, conv f (mul1 g c) r = mul1 (conv f g) c r
  | [] => rfl
  | x :: r => by
    show f (x :: r) * g [] + conv f (fun s => g (x :: s) + if x = c then g s else 0) r = (f (x :: r) * g [] + conv f (fun s => g (x :: s)) r) + if x = c then conv f g r else 0
    rw [conv_add f r (fun s => g (x :: s)) fun s => if x = c then g s else 0]
    by_cases h : x = c
    · have : conv f (fun s => if x = c then g s else 0) r = conv f g r := conv_congr f r fun s => if_pos h
      rw [this, if_pos h]
      omega
    · have : conv f (fun s => if x = c then g s else 0) r = 0 := (conv_congr f r fun s => if_neg h).trans (conv_zero f r)
      rw [this, if_neg h]
      omega
theorem conv_div (f g : Ser) (c : Nat) (r : Wd) : conv f (div1 g c) r = div1 (conv f g) c r := by
  have h : ∀ r, mul1 (conv f (div1 g c)) c r = conv f g r := fun r => by
    rw [← conv_mul]
    exact conv_congr f r (mul_div g c)
  rw [← div_mul (conv f (div1 g c)) c r]
  exact div_congr h c r
/-- a sign more: a letter, or a letter undone -/
def put (f : Ser) (e : Nat × Bool) : Ser := if e.2 = true then div1 f e.1 else mul1 f e.1
theorem put_congr {f g : Ser} (h : ∀ r, f r = g r) (e : Nat × Bool) : ∀ r, put f e r = put g e r := fun r => by
  unfold put
  split
  · exact div_congr h e.1 r
  · exact mul_congr h e.1 r
def ser (s : List (Nat × Bool)) : Ser := s.foldl put one
theorem ser_snoc (s : List (Nat × Bool)) (e : Nat × Bool) : ser (s ++ [e]) = put (ser s) e := by
  unfold ser
  rw [List.foldl_append]
  rfl
theorem conv_put (f g : Ser) (e : Nat × Bool) (r : Wd) : conv f (put g e) r = put (conv f g) e r := by
  unfold put
  split
  · exact conv_div f g e.1 r
  · exact conv_mul f g e.1 r
/-- two rows of signs, one behind the other -/
theorem conv_ser (a : List (Nat × Bool)) : ∀ (n : Nat) (b : List (Nat × Bool)), b.length = n → ∀ r, conv (ser a) (ser b) r = ser (a ++ b) r
  | 0, b, h, r => by
    rw [List.length_eq_zero_iff.mp h, List.append_nil]
    exact conv_one _ r
  | n + 1, b, h, r => by
    have nb : b ≠ [] := fun z => by rw [z] at h; cases h
    rw [← List.dropLast_concat_getLast nb, ser_snoc, ← List.append_assoc, ser_snoc, conv_put]
    exact put_congr (conv_ser a n b.dropLast (by rw [List.length_dropLast]; omega)) _ r
def flip (e : Nat × Bool) : Nat × Bool := (e.1, !e.2)
theorem put_flip (f : Ser) (e : Nat × Bool) (r : Wd) : put (put f e) (flip e) r = f r := by
  unfold put flip
  cases h : e.2 with
  | true =>
    show mul1 (div1 f e.1) e.1 r = f r
    exact mul_div f e.1 r
  | false =>
    show div1 (mul1 f e.1) e.1 r = f r
    exact div_mul f e.1 r
/-- signs and the same undone -/
theorem ser_undone : ∀ (s : List (Nat × Bool)) (f : Ser) (r : Wd), (s ++ (s.reverse.map flip)).foldl put f r = f r
  | [], f, r => rfl
  | e :: s, f, r => by
    rw [List.reverse_cons, List.map_append, ← List.append_assoc, List.foldl_append, List.cons_append]
    show put ((s ++ (s.reverse.map flip)).foldl put (put f e)) (flip e) r = f r
    rw [put_congr (ser_undone s (put f e)) (flip e) r]
    exact put_flip f e r
theorem ser_inv (s : List (Nat × Bool)) (r : Wd) : conv (ser s) (ser (s.reverse.map flip)) r = one r := by
  rw [conv_ser s _ _ rfl]
  exact ser_undone s one r
theorem ser_inv' (s : List (Nat × Bool)) (r : Wd) : conv (ser (s.reverse.map flip)) (ser s) r = one r := by
  have := ser_inv (s.reverse.map flip) r
  have e : (s.reverse.map flip).reverse.map flip = s := by
    rw [← List.map_reverse, List.reverse_reverse, List.map_map]
    conv => rhs; rw [← List.map_id s]
    refine List.map_congr_left fun e _ => ?_
    show flip (flip e) = e
    unfold flip
    simp
  rw [e] at this
  exact this
/-- a text's letters give the counts -/
def small (t : List Nat) : List (Nat × Bool) := t.map fun c => (c, false)
theorem ser_cnt : ∀ (n : Nat) (t : List Nat), t.length = n → ∀ w, ser (small t) w.reverse = ((cnt w t : Nat) : Int)
  | 0, t, h, w => by
    rw [List.length_eq_zero_iff.mp h]
    cases w with
    | nil => rfl
    | cons c w =>
      rw [cnt_e]
      show one (c :: w).reverse = 0
      cases z : (c :: w).reverse with
      | nil =>
        have := congrArg List.length z
        rw [List.length_reverse] at this
        cases this
      | cons _ _ => rfl
  | n + 1, t, h, w => by
    have nt : t ≠ [] := fun z => by rw [z] at h; cases h
    have ih := ser_cnt n t.dropLast (by rw [List.length_dropLast]; omega)
    have e : small t = small t.dropLast ++ [(t.getLast nt, false)] := by
      conv => lhs; rw [← List.dropLast_concat_getLast nt]
      unfold small
      rw [List.map_append]
      rfl
    rw [e, ser_snoc]
    conv => rhs; rw [← List.dropLast_concat_getLast nt]
    show mul1 (ser (small t.dropLast)) (t.getLast nt) w.reverse = _
    by_cases nw : w = []
    · subst nw
      have := ih []
      rw [cnt_nil] at this ⊢
      exact this
    · conv => lhs; rw [← List.dropLast_concat_getLast nw, List.reverse_append]
      conv => rhs; rw [← List.dropLast_concat_getLast nw, cnt_snoc]
      show ser (small t.dropLast) (w.getLast nw :: w.dropLast.reverse) + (if w.getLast nw = t.getLast nt then ser (small t.dropLast) w.dropLast.reverse else 0) = _
      have e2 : w.getLast nw :: w.dropLast.reverse = (w.dropLast ++ [w.getLast nw]).reverse := by rw [List.reverse_append]; rfl
      rw [e2, ih, ih]
      split
      · rw [Int.natCast_add]
      · rw [Nat.add_zero, Int.add_zero]
end Tm
set_option Elab.async false
set_option linter.all false
set_option maxRecDepth 100000
set_option maxHeartbeats 4000000
/-! Tm7: terms moved by a series; one move behind another -/
namespace Tm
open Mx
theorem range_succ_sum (f : Nat → Int) (n : Nat) : ((List.range (n + 1)).map f).sum = ((List.range n).map f).sum + f n := by
  rw [List.range_succ, List.map_append, List.sum_append]
  show _ + (f n + 0) = _
  omega
theorem conv_sum : ∀ (n : Nat) (p : Wd) (f g : Ser), p.length = n → conv f g p.reverse = ((List.range (p.length + 1)).map fun k => f (p.take k).reverse * g (p.drop k).reverse).sum
  | 0, p, f, g, h => by
    rw [List.length_eq_zero_iff.mp h]
    show f [] * g [] = f [] * g [] + 0
    omega
  | n + 1, p, f, g, h => by
    have np : p ≠ [] := fun z => by rw [z] at h; cases h
    obtain ⟨q, x, rfl⟩ : ∃ q x, p = q ++ [x] := ⟨p.dropLast, p.getLast np, (List.dropLast_concat_getLast np).symm⟩
    have hq : q.length = n := by
      rw [List.length_append] at h
      exact Nat.succ.inj h
    rw [List.length_append]
    show conv f g (q ++ [x]).reverse = ((List.range (q.length + 1 + 1)).map _).sum
    rw [range_succ_sum, List.reverse_append]
    show f (x :: q.reverse) * g [] + conv f (fun s => g (x :: s)) q.reverse = _
    rw [conv_sum n q f (fun s => g (x :: s)) hq]
    have e1 : (q ++ [x]).take (q.length + 1) = q ++ [x] := List.take_of_length_le (by rw [List.length_append]; exact Nat.le_refl _)
    have e2 : (q ++ [x]).drop (q.length + 1) = [] := List.drop_of_length_le (by rw [List.length_append]; exact Nat.le_refl _)
    rw [e1, e2, List.reverse_append]
    have e3 : ((List.range (q.length + 1)).map fun k => f (q.take k).reverse * g (x :: (q.drop k).reverse)) = (List.range (q.length + 1)).map fun k => f ((q ++ [x]).take k).reverse * g ((q ++ [x]).drop k).reverse := List.map_congr_left fun k hk => by
      have := List.mem_range.mp hk
      rw [List.take_append_of_le_length (by omega), List.drop_append_of_le_length (by omega), List.reverse_append]
      rfl
    rw [e3]
    show f (x :: q.reverse) * g [] + _ = _ + f (x :: q.reverse) * g []
    omega
/-- the terms that one word gives -/
def cuts (g : Ser) (e : Wd × Int) : Terms := (List.range (e.1.length + 1)).map fun k => (e.1.drop k, e.2 * g (e.1.take k).reverse)
def shift (g : Ser) (ts : Terms) : Terms := ts.flatMap (cuts g)
theorem shift_cons (g : Ser) (e : Wd × Int) (r : Terms) : shift g (e :: r) = cuts g e ++ shift g r := rfl
theorem sum_mul (a : Int) (l : List Int) : (l.map fun x => a * x).sum = a * l.sum := by
  induction l with
  | nil => exact (Int.mul_zero a).symm
  | cons x l ih => rw [List.map_cons, List.sum_cons, List.sum_cons, ih, Int.mul_add]
/-- the worth of moved terms -/
theorem worth_shift (t x : Wd) : ∀ ts : Terms, worth (shift (ser (small t)) ts) x = worth ts (t ++ x)
  | [] => rfl
  | e :: r => by
    rw [shift_cons, worth_app, worth_cons, worth_shift t x r]
    congr 1
    rw [cnt_cuts]
    unfold worth cuts
    rw [List.map_map, ← sum_mul, List.map_map]
    congr 1
    refine List.map_congr_left fun k _ => ?_
    show (e.2 * ser (small t) (e.1.take k).reverse) * ((cnt (e.1.drop k) x : Nat) : Int) = e.2 * (((cnt (e.1.take k) t : Nat) : Int) * ((cnt (e.1.drop k) x : Nat) : Int))
    rw [ser_cnt _ t rfl, Int.mul_assoc]
/-- what a word gives for a word that it ends with -/
def fin (g : Ser) (w v : Wd) : Int := if v.drop (v.length - w.length) = w then g (v.take (v.length - w.length)).reverse else 0
theorem cuts_tot (g : Ser) (e : Wd × Int) (w : Wd) : tot (cuts g e) w = e.2 * fin g w e.1 := by
  have key : ∀ n, n ≤ e.1.length + 1 → tot ((List.range n).map fun k => (e.1.drop k, e.2 * g (e.1.take k).reverse)) w = if (e.1.length - w.length < n ∧ e.1.drop (e.1.length - w.length) = w) then e.2 * g (e.1.take (e.1.length - w.length)).reverse else 0 := by
    intro n
    induction n with
    | zero =>
      intro _
      rw [if_neg (fun z => by omega)]
      rfl
    | succ n ih =>
      intro hn
      rw [List.range_succ, List.map_append, tot_app, ih (by omega)]
      show _ + ((if e.1.drop n = w then e.2 * g (e.1.take n).reverse else 0) + 0) = _
      by_cases h : e.1.drop n = w
      · have hl : w.length = e.1.length - n := by rw [← h, List.length_drop]
        have en : e.1.length - w.length = n := by omega
        rw [if_pos h, en, if_neg (fun z => by omega), if_pos ⟨by omega, h⟩]
        omega
      · rw [if_neg h]
        by_cases q : e.1.length - w.length < n ∧ e.1.drop (e.1.length - w.length) = w
        · rw [if_pos q, if_pos ⟨by omega, q.2⟩]
          omega
        · rw [if_neg q, if_neg]
          · rfl
          · intro z
            by_cases y : e.1.length - w.length = n
            · exact h (y ▸ z.2)
            · exact q ⟨by omega, z.2⟩
  unfold cuts fin
  rw [key _ (Nat.le_refl _)]
  by_cases h : e.1.drop (e.1.length - w.length) = w
  · rw [if_pos ⟨by omega, h⟩, if_pos h]
  · rw [if_neg (fun z => h z.2), if_neg h, Int.mul_zero]
theorem shift_tot (g : Ser) (w : Wd) : ∀ ts : Terms, tot (shift g ts) w = (ts.map fun e => e.2 * fin g w e.1).sum
  | [] => rfl
  | e :: r => by rw [shift_cons, tot_app, cuts_tot, shift_tot g w r, List.map_cons, List.sum_cons]
theorem shift_nf (g : Ser) (ts : Terms) : nf (shift g (nf ts)) = nf (shift g ts) := nf_congr fun w => by rw [shift_tot, shift_tot, nf_sum (fun v => fin g w v) ts]
theorem shift_congr {g h : Ser} (e : ∀ r, g r = h r) (ts : Terms) : shift g ts = shift h ts := by
  unfold shift
  congr 1
  funext x
  unfold cuts
  exact List.map_congr_left fun k _ => by rw [e]
theorem fin_conv (h g : Ser) (w v : Wd) : ((List.range (v.length + 1)).map fun k => h (v.take k).reverse * fin g w (v.drop k)).sum = fin (conv h g) w v := by
  by_cases z : v.drop (v.length - w.length) = w
  · have hl := congrArg List.length z
    rw [List.length_drop] at hl
    have cv : fin (conv h g) w v = ((List.range (v.length - w.length + 1)).map fun k => h ((v.take (v.length - w.length)).take k).reverse * g ((v.take (v.length - w.length)).drop k).reverse).sum := by
      unfold fin
      rw [if_pos z, conv_sum _ _ h g rfl]
      have : (v.take (v.length - w.length)).length = v.length - w.length := by rw [List.length_take]; omega
      rw [this]
    rw [cv]
    have key : ∀ d, d ≤ w.length → ((List.range (v.length - w.length + 1 + d)).map fun k => h (v.take k).reverse * fin g w (v.drop k)).sum = ((List.range (v.length - w.length + 1)).map fun k => h ((v.take (v.length - w.length)).take k).reverse * g ((v.take (v.length - w.length)).drop k).reverse).sum := by
      intro d
      induction d with
      | zero =>
        intro _
        congr 1
        refine List.map_congr_left fun k hk => ?_
        have hk := List.mem_range.mp hk
        have a1 : (v.take (v.length - w.length)).take k = v.take k := by rw [List.take_take, Nat.min_eq_left (by omega)]
        have a2 : (v.drop k).length - w.length = v.length - w.length - k := by rw [List.length_drop]; omega
        have a3 : (v.drop k).drop (v.length - w.length - k) = w := by
          rw [List.drop_drop]
          have : k + (v.length - w.length - k) = v.length - w.length := by omega
          rw [this]
          exact z
        unfold fin
        rw [a1, a2, if_pos a3, List.drop_take]
      | succ d ih =>
        intro hd
        have e : v.length - w.length + 1 + (d + 1) = (v.length - w.length + 1 + d) + 1 := by omega
        rw [e, range_succ_sum, ih (by omega)]
        have : fin g w (v.drop (v.length - w.length + 1 + d)) = 0 := by
          unfold fin
          refine if_neg fun y => ?_
          have := congrArg List.length y
          rw [List.length_drop, List.length_drop] at this
          omega
        rw [this, Int.mul_zero, Int.add_zero]
    have ev : v.length + 1 = v.length - w.length + 1 + w.length := by omega
    rw [ev]
    exact key w.length (Nat.le_refl _)
  · have r0 : fin (conv h g) w v = 0 := by unfold fin; exact if_neg z
    rw [r0]
    have : ∀ l : List Nat, (∀ k ∈ l, k ≤ v.length) → (l.map fun k => h (v.take k).reverse * fin g w (v.drop k)).sum = 0 := by
      intro l
      induction l with
      | nil => intro _; rfl
      | cons k l ih =>
        intro hl
        have hk := hl k List.mem_cons_self
        have f0 : fin g w (v.drop k) = 0 := by
          unfold fin
          refine if_neg fun y => z ?_
          rw [List.drop_drop, List.length_drop] at y
          have yl := congrArg List.length y
          rw [List.length_drop] at yl
          have : k + (v.length - k - w.length) = v.length - w.length := by omega
          rw [this] at y
          exact y
        rw [List.map_cons, List.sum_cons, ih (fun j hj => hl j (List.mem_cons_of_mem _ hj)), f0, Int.mul_zero]
        rfl
    exact this _ fun k hk => by have := List.mem_range.mp hk; omega
/-- one move behind another -/
theorem shift_shift (h g : Ser) (ts : Terms) : nf (shift g (nf (shift h ts))) = nf (shift (conv h g) ts) := by
  rw [shift_nf]
  refine nf_congr fun w => ?_
  rw [shift_tot, shift_tot]
  induction ts with
  | nil => rfl
  | cons e r ih =>
    rw [shift_cons, List.map_append, List.sum_append, ih, List.map_cons, List.sum_cons]
    congr 1
    rw [← fin_conv h g w e.1, ← sum_mul, List.map_map]
    unfold cuts
    rw [List.map_map]
    congr 1
    refine List.map_congr_left fun k _ => ?_
    show (e.2 * h (e.1.take k).reverse) * fin g w (e.1.drop k) = e.2 * (h (e.1.take k).reverse * fin g w (e.1.drop k))
    rw [Int.mul_assoc]
theorem fin_one (w v : Wd) : fin one w v = if v = w then 1 else 0 := by
  unfold fin
  by_cases h : v = w
  · subst h
    rw [Nat.sub_self, List.drop_zero, if_pos rfl, if_pos rfl, List.take_zero]
    rfl
  · rw [if_neg h]
    split
    · rename_i z
      have hl := congrArg List.length z
      rw [List.length_drop] at hl
      cases q : (v.take (v.length - w.length)).reverse with
      | nil =>
        have := congrArg List.length q
        rw [List.length_reverse, List.length_take] at this
        have e0 : v.length - w.length = 0 := by
          have : ([] : Wd).length = 0 := rfl
          omega
        rw [e0, List.drop_zero] at z
        exact absurd z h
      | cons _ _ => rfl
    · rfl
theorem shift_one (ts : Terms) : nf (shift one ts) = nf ts := nf_congr fun w => by
  rw [shift_tot, tot_sum]
  congr 1
  exact List.map_congr_left fun e _ => by rw [fin_one]
/-- moved and unmoved -/
theorem shift_back (s : List (Nat × Bool)) {ts : Terms} (h : Nf ts) : nf (shift (ser (s.reverse.map flip)) (nf (shift (ser s) ts))) = ts := by
  rw [shift_shift, shift_congr (ser_inv s), shift_one, nf_id h]
theorem shift_back' (s : List (Nat × Bool)) {ts : Terms} (h : Nf ts) : nf (shift (ser s) (nf (shift (ser (s.reverse.map flip)) ts))) = ts := by
  rw [shift_shift, shift_congr (ser_inv' s), shift_one, nf_id h]
end Tm
set_option Elab.async false
set_option linter.all false
set_option maxRecDepth 100000
set_option maxHeartbeats 4000000
namespace K15
open PySem PySem.Spec PyProof.Rows L2 Evl Bx
/-! ### counts of all beginnings, letter by letter -/
theorem prs_mem {bs : List Tm.Wd} (tr : Tree bs) {c a b : Nat} (h : (a, b) ∈ prs bs c bs.length) : ∃ w, bs[a]? = some w ∧ w.getLast? = some c ∧ bs[b]? = some w.dropLast ∧ b < a := by
  unfold prs at h
  obtain ⟨e, he, hs⟩ := List.mem_filterMap.mp h
  obtain ⟨i, hi⟩ := List.getElem?_of_mem (List.mem_of_mem_take he)
  obtain ⟨h1, h2⟩ := idx_at hi
  unfold stepOf at hs
  split at hs
  · rename_i g
    have n : e.1 ≠ [] := fun z => by rw [z] at g; cases g
    obtain ⟨j, hj, q⟩ := tr.par i e.1 h1 n
    rw [idx_val tr.nd q] at hs
    cases hs
    exact ⟨e.1, by rw [h2]; exact h1, g, q, by rw [h2]; exact hj⟩
  · cases hs
theorem prs_all {bs : List Tm.Wd} {c m : Nat} {w : Tm.Wd} (h : bs[m]? = some w) (g : w.getLast? = some c) : m ∈ (prs bs c bs.length).map (·.1) := by
  have : (w, m) ∈ idx bs := by
    refine List.mem_of_getElem? (i := m) ?_
    unfold idx
    rw [List.getElem?_zipIdx, h]
    show some (w, 0 + m) = _
    rw [Nat.zero_add]
  refine List.mem_map.mpr ⟨(m, (Nd.val (idx bs) w.dropLast).getD 0), ?_, rfl⟩
  unfold prs
  rw [List.take_of_length_le (by rw [idx_len]; exact Nat.le_refl _)]
  exact List.mem_filterMap.mpr ⟨(w, m), this, by unfold stepOf; rw [if_pos g]⟩
theorem prs_asc (bs : List Tm.Wd) (c n : Nat) : (prs bs c n).Pairwise fun a b => a.1 < b.1 := by
  unfold prs
  refine List.pairwise_filterMap.mpr ?_
  refine List.Pairwise.sublist (List.take_sublist _ _) ?_
  refine List.pairwise_iff_getElem.mpr fun i j hi hj hij b hb b' hb' => ?_
  have e1 := (idx_at (List.getElem?_eq_getElem hi)).2
  have e2 := (idx_at (List.getElem?_eq_getElem hj)).2
  unfold stepOf at hb hb'
  split at hb
  · split at hb'
    · cases hb
      cases hb'
      show (idx bs)[i].2 < (idx bs)[j].2
      omega
    · cases hb'
  · cases hb
def ups (bs : List Tm.Wd) (c : Nat) : List (Nat × Nat) := (prs bs c bs.length).reverse
theorem ups_desc (bs : List Tm.Wd) (c : Nat) : (ups bs c).Pairwise fun a b => b.1 < a.1 := List.pairwise_reverse.mpr (prs_asc bs c bs.length)
theorem getD_of {bs : List Tm.Wd} {m : Nat} {w : Tm.Wd} (h : bs[m]? = some w) : bs.getD m [] = w := by rw [List.getD_eq_getElem?_getD, h]; rfl
theorem big_of {xs : List (Nat × Nat)} (p : xs.Pairwise fun a b => b.1 < a.1) {k a b : Nat} (h : xs[k]? = some (a, b)) : ∀ x ∈ (xs.take k).map (·.1), a < x := fun x hx => by
  obtain ⟨e, he, rfl⟩ := List.mem_map.mp hx
  obtain ⟨i, hi⟩ := List.getElem?_of_mem he
  have hik : i < k := by
    have := (List.getElem?_eq_some_iff.mp hi).1
    rw [List.length_take] at this
    omega
  rw [List.getElem?_take_of_lt hik] at hi
  obtain ⟨i1, i2⟩ := List.getElem?_eq_some_iff.mp hi
  obtain ⟨k1, k2⟩ := List.getElem?_eq_some_iff.mp h
  have := List.pairwise_iff_getElem.mp p i k i1 k1 hik
  rw [i2, k2] at this
  exact this
theorem less_of {xs : List (Nat × Nat)} (p : xs.Pairwise fun a b => a.1 < b.1) {k a b : Nat} (h : xs[k]? = some (a, b)) : ∀ x ∈ (xs.take k).map (·.1), x < a := fun x hx => by
  obtain ⟨e, he, rfl⟩ := List.mem_map.mp hx
  obtain ⟨i, hi⟩ := List.getElem?_of_mem he
  have hik : i < k := by
    have := (List.getElem?_eq_some_iff.mp hi).1
    rw [List.length_take] at this
    omega
  rw [List.getElem?_take_of_lt hik] at hi
  obtain ⟨i1, i2⟩ := List.getElem?_eq_some_iff.mp hi
  obtain ⟨k1, k2⟩ := List.getElem?_eq_some_iff.mp h
  have := List.pairwise_iff_getElem.mp p i k i1 k1 hik
  rw [i2, k2] at this
  exact this
theorem first_of {xs : List (Nat × Nat)} (p : xs.Pairwise fun a b => a.1 < b.1) {k a b x : Nat} (h : xs[k]? = some (a, b)) (hx : x ∈ xs.map (·.1)) (l : x < a) : x ∈ (xs.take k).map (·.1) := by
  obtain ⟨e, he, rfl⟩ := List.mem_map.mp hx
  obtain ⟨i, hi⟩ := List.getElem?_of_mem he
  obtain ⟨i1, i2⟩ := List.getElem?_eq_some_iff.mp hi
  obtain ⟨k1, k2⟩ := List.getElem?_eq_some_iff.mp h
  have ik : i < k := by
    apply Decidable.byContradiction
    intro z
    by_cases q : i = k
    · subst q
      rw [k2] at i2
      rw [← i2] at l
      exact Nat.lt_irrefl _ l
    · have := List.pairwise_iff_getElem.mp p k i k1 i1 (by omega)
      rw [k2, i2] at this
      exact Nat.lt_irrefl _ (Nat.lt_trans l this)
  refine List.mem_map.mpr ⟨e, List.mem_of_getElem? (i := i) ?_, rfl⟩
  rw [List.getElem?_take_of_lt ik]
  exact hi
/-- the number of the word at place m -/
def at1 (f : Tm.Ser) (bs : List Tm.Wd) (m : Nat) : Int := f (bs.getD m []).reverse
/-- the number at place m when those in xs have been changed from f to g -/
def half (f g : Tm.Ser) (bs : List Tm.Wd) (xs : List (Nat × Nat)) (k m : Nat) : Int := if m ∈ (xs.take k).map (·.1) then at1 g bs m else at1 f bs m
theorem half_zero (f g : Tm.Ser) (bs : List Tm.Wd) (xs : List (Nat × Nat)) (m : Nat) : half f g bs xs 0 m = at1 f bs m := by
  unfold half
  rw [if_neg (by simp)]
theorem rev_last {w : Tm.Wd} {c : Nat} (g : w.getLast? = some c) : w.reverse = c :: w.dropLast.reverse := by
  have n : w ≠ [] := fun z => by rw [z] at g; cases g
  have gl : w.getLast n = c := by
    rw [List.getLast?_eq_getLast n] at g
    exact Option.some.inj g
  conv => lhs; rw [← List.dropLast_concat_getLast n, gl, List.reverse_append]
  rfl
theorem same_mul (f : Tm.Ser) {w : Tm.Wd} {c : Nat} (g : w.getLast? ≠ some c) : Tm.mul1 f c w.reverse = f w.reverse := by
  cases h : w.reverse with
  | nil => rfl
  | cons x r =>
    show f (x :: r) + (if x = c then f r else 0) = f (x :: r)
    have : x ≠ c := fun z => g (by rw [List.getLast?_eq_head?_reverse, h, z]; rfl)
    rw [if_neg this]
    omega
theorem same_div (f : Tm.Ser) {w : Tm.Wd} {c : Nat} (g : w.getLast? ≠ some c) : Tm.div1 f c w.reverse = f w.reverse := by
  cases h : w.reverse with
  | nil => rfl
  | cons x r =>
    show f (x :: r) - (if x = c then Tm.div1 f c r else 0) = f (x :: r)
    have : x ≠ c := fun z => g (by rw [List.getLast?_eq_head?_reverse, h, z]; rfl)
    rw [if_neg this]
    omega
theorem half_all {f g : Tm.Ser} {bs : List Tm.Wd} {xs : List (Nat × Nat)} {c m : Nat} (same : ∀ w : Tm.Wd, w.getLast? ≠ some c → g w.reverse = f w.reverse) (hx : ∀ x, x ∈ xs.map (·.1) ↔ x ∈ (prs bs c bs.length).map (·.1)) (hm : m < bs.length) : half f g bs xs xs.length m = at1 g bs m := by
  unfold half
  rw [List.take_length]
  split
  · rfl
  · rename_i h
    have hw := List.getElem?_eq_getElem hm
    unfold at1
    rw [getD_of hw]
    exact (same _ fun z => h ((hx m).mpr (prs_all hw z))).symm
theorem half_next {f g : Tm.Ser} {bs : List Tm.Wd} {xs : List (Nat × Nat)} {k a b : Nat} (h : xs[k]? = some (a, b)) (na : a ∉ (xs.take k).map (·.1)) {y : Int} (hy : at1 g bs a = y) : ∀ m, half f g bs xs (k + 1) m = if m = a then y else half f g bs xs k m := fun m => by
  by_cases e : m = a
  · rw [if_pos e, e]
    unfold half
    rw [take_one h, List.map_append, if_pos (List.mem_append_right _ (by simp)), hy]
  · rw [if_neg e]
    unfold half
    rw [take_one h, List.map_append]
    have : (m ∈ (xs.take k).map (·.1) ++ [(a, b)].map (·.1)) ↔ m ∈ (xs.take k).map (·.1) := by
      rw [List.mem_append]
      exact ⟨fun z => z.elim id fun q => absurd (by simpa using q) e, .inl⟩
    by_cases z : m ∈ (xs.take k).map (·.1)
    · rw [if_pos (this.mpr z), if_pos z]
    · rw [if_neg (fun q => z (this.mp q)), if_neg z]
/-- a letter: from the last beginning on -/
theorem turn_mul {f : Tm.Ser} {bs : List Tm.Wd} {c k a b : Nat} (tr : Tree bs) (h : (ups bs c)[k]? = some (a, b)) :
    a < bs.length ∧ b < bs.length ∧ ∀ m, half f (Tm.mul1 f c) bs (ups bs c) (k + 1) m = if m = a then half f (Tm.mul1 f c) bs (ups bs c) k a + half f (Tm.mul1 f c) bs (ups bs c) k b else half f (Tm.mul1 f c) bs (ups bs c) k m := by
  have hm : (a, b) ∈ prs bs c bs.length := List.mem_reverse.mp (List.mem_of_getElem? h)
  obtain ⟨w, ha, g, hb, lt⟩ := prs_mem tr hm
  have la := (List.getElem?_eq_some_iff.mp ha).1
  have big := big_of (ups_desc bs c) h
  have na : a ∉ ((ups bs c).take k).map (·.1) := fun z => absurd (big a z) (Nat.lt_irrefl _)
  have nb : b ∉ ((ups bs c).take k).map (·.1) := fun z => by have := big b z; omega
  refine ⟨la, by omega, half_next h na ?_⟩
  unfold half
  rw [if_neg na, if_neg nb]
  unfold at1
  rw [getD_of ha, getD_of hb, rev_last g]
  show f _ + (if c = c then f _ else 0) = _
  rw [if_pos rfl]
/-- a letter undone: from the first beginning on -/
theorem turn_div {f : Tm.Ser} {bs : List Tm.Wd} {c k a b : Nat} (tr : Tree bs) (h : (prs bs c bs.length)[k]? = some (a, b)) :
    a < bs.length ∧ b < bs.length ∧ ∀ m, half f (Tm.div1 f c) bs (prs bs c bs.length) (k + 1) m = if m = a then half f (Tm.div1 f c) bs (prs bs c bs.length) k a - half f (Tm.div1 f c) bs (prs bs c bs.length) k b else half f (Tm.div1 f c) bs (prs bs c bs.length) k m := by
  have hm : (a, b) ∈ prs bs c bs.length := List.mem_of_getElem? h
  obtain ⟨w, ha, g, hb, lt⟩ := prs_mem tr hm
  have la := (List.getElem?_eq_some_iff.mp ha).1
  have asc := prs_asc bs c bs.length
  have na : a ∉ ((prs bs c bs.length).take k).map (·.1) := fun z => absurd (less_of asc h a z) (Nat.lt_irrefl _)
  have vb : half f (Tm.div1 f c) bs (prs bs c bs.length) k b = at1 (Tm.div1 f c) bs b := by
    unfold half
    split
    · rfl
    · rename_i nb
      unfold at1
      rw [getD_of hb]
      exact (same_div f fun z => nb (first_of asc h (prs_all hb z) lt)).symm
  refine ⟨la, by omega, half_next h na ?_⟩
  rw [vb]
  unfold half
  rw [if_neg na]
  unfold at1
  rw [getD_of ha, getD_of hb, rev_last g]
  show f _ - (if c = c then Tm.div1 f c _ else 0) = _
  rw [if_pos rfl]
/-- the row of numbers -/
def rowV (n : Nat) (f : Nat → Int) : List V := (List.range n).map fun m => V.int (f m)
theorem rowV_at {n : Nat} {f : Nat → Int} {m : Nat} (h : m < n) : (rowV n f)[m]? = some (.int (f m)) := by
  unfold rowV
  rw [List.getElem?_map, List.getElem?_range h]
  rfl
theorem rowV_len (n : Nat) (f : Nat → Int) : (rowV n f).length = n := by unfold rowV; rw [List.length_map, List.length_range]
theorem rowV_set {n : Nat} {f g : Nat → Int} {a : Nat} {x : Int} (h : ∀ m, g m = if m = a then x else f m) : (rowV n f).set a (.int x) = rowV n g := by
  refine List.ext_getElem? fun m => ?_
  rw [List.getElem?_set]
  by_cases hm : m < n
  · rw [rowV_at hm, rowV_at hm, h m]
    by_cases e : a = m
    · rw [if_pos e, if_pos (by rw [rowV_len, e]; exact hm), if_pos e.symm]
    · rw [if_neg e, if_neg fun z => e z.symm]
  · have n1 : (rowV n f)[m]? = none := List.getElem?_eq_none (by rw [rowV_len]; omega)
    have n2 : (rowV n g)[m]? = none := List.getElem?_eq_none (by rw [rowV_len]; omega)
    rw [n1, n2]
    split
    · rw [if_neg (by rw [rowV_len]; omega)]
    · rfl
theorem rowV_ext {n : Nat} {f g : Nat → Int} (h : ∀ m, m < n → f m = g m) : rowV n f = rowV n g := by
  unfold rowV
  exact List.map_congr_left fun m hm => by rw [h m (List.mem_range.mp hm)]
/-- words with their numbers -/
def cts (f : Tm.Ser) (bs : List Tm.Wd) : Tm.Terms := bs.map fun w => (w, f w.reverse)
theorem cts_keys (f : Tm.Ser) (bs : List Tm.Wd) : (cts f bs).map (·.1) = bs := by
  unfold cts
  rw [List.map_map]
  exact List.map_id _
theorem cts_val {f : Tm.Ser} {bs : List Tm.Wd} (nd : bs.Nodup) {w : Tm.Wd} (h : w ∈ bs) : Nd.val (cts f bs) w = some (f w.reverse) := by
  refine Nd.mem_val (by rw [cts_keys]; exact nd) ?_
  unfold cts
  exact List.mem_map.mpr ⟨w, h, rfl⟩
/-- the signs as they are written: capitals undo -/
def sgs (s : List (Nat × Bool)) : List Nat := s.map fun e => if e.2 = true then e.1 - 32 else e.1
theorem lower_cap {c : Nat} (h : 97 ≤ c ∧ c ≤ 122) : Txt.lower (mk [c - 32]) = mk [c] := by
  rw [lower_ascii fun d hd => by rw [List.mem_singleton.mp hd]; omega]
  have e : (mk [c - 32]).cps.map lo1 = (mk [c]).cps := by
    show [c - 32].toArray.map lo1 = [c].toArray
    rw [List.map_toArray]
    show [lo1 (c - 32)].toArray = _
    have : lo1 (c - 32) = c := by
      unfold lo1
      rw [if_pos (by omega)]
      omega
    rw [this]
  rw [e]
end K15
set_option Elab.async false
set_option linter.all false
set_option maxRecDepth 100000
set_option maxHeartbeats 4000000
namespace K15
open PySem PySem.Spec PyProof.Rows L2 Evl Bx
theorem row_start {bs : List Tm.Wd} (tr : Tree bs) (bl : 0 < bs.length) : [V.int 1] ++ List.replicate (bs.length - 1) (V.int 0) = rowV bs.length (at1 (Tm.ser []) bs) := by
  refine List.ext_getElem? fun m => ?_
  by_cases hm : m < bs.length
  · rw [rowV_at hm]
    cases m with
    | zero =>
      unfold at1
      rw [getD_of tr.root]
      rfl
    | succ m =>
      have hw := List.getElem?_eq_getElem hm
      have n : bs[m + 1] ≠ [] := fun z => by
        have := idx_val tr.nd hw
        rw [z, idx_val tr.nd tr.root] at this
        cases this
      have z0 : at1 (Tm.ser []) bs (m + 1) = 0 := by
        unfold at1
        rw [getD_of hw]
        cases q : bs[m + 1].reverse with
        | nil =>
          have := congrArg List.length q
          rw [List.length_reverse] at this
          exact absurd (List.length_eq_zero_iff.mp this) n
        | cons _ _ => rfl
      rw [z0, List.getElem?_append_right (by show 1 ≤ m + 1; omega)]
      show (List.replicate _ _)[m + 1 - 1]? = _
      rw [Nat.add_sub_cancel, List.getElem?_replicate, if_pos (by omega)]
  · rw [List.getElem?_eq_none (by rw [List.length_append, List.length_replicate]; show 1 + (bs.length - 1) ≤ _; omega), List.getElem?_eq_none (by rw [rowV_len]; omega)]
section
variable {P : Program} {w : World} {K : PySem.W.Frag} {mg : Str → Option Value} {base : Heap}
def sp_bcounts (K : PySem.W.Frag) : Sp := fun vs H Q _ => ∃ (a : Addr) (ws : List Tm.Wd) (s : List (Nat × Bool)) (m : Nat), vs = [.ref a, tx (sgs s)] ∧ SqL K H a (ws.map tx) ∧ (∀ w ∈ ws, w.length ≤ m) ∧ ws.length * m ≤ 90000 ∧ m ≤ 1000 ∧ (∀ e ∈ s, 97 ≤ e.1 ∧ e.1 ≤ 122) ∧ s.length ≤ 1000 ∧
  ∀ d H' bs, Ex H H' → H' d = some (.dK (Nd.enc V.int (cts (Tm.ser s) bs))) → bs.Nodup → (∀ w ∈ ws, ∀ k ≤ w.length, w.take k ∈ bs) → Q (.ref d) H'
theorem ok_beginning_counts (T : Tx K mg) : FnOk P w K mg base CX0 2 T.a_beginning_counts T.fd_beginning_counts ["words", "signs"] (sp_bcounts K) := by
  refine T.F_beginning_counts.ok sc_beginning_counts (fun vs H Q E h => ?_) (fun cdv A outer s H vs Q E hr h => ?_)
  · obtain ⟨_, _, _, _, rfl, _⟩ := h
    rfl
  · obtain ⟨a, ws, t, m, rfl, hS, hm, hb, m1, ht, tl, q⟩ := h
    refine ⟨_, (pss_cons (ps_set (i := 2) sc_beginning_counts.nd rfl (by first | exact Or.inl rfl | exact Or.inr rfl) (pe_call (ok__spots T) (hr.mono (by decide)) (by rfl) T.g__spots T.F__spots.kp (b__spots T) .nil pass0 (pa_cons (pv 0) pa_nil))) (pss_cons (ps_set (i := 3) sc_beginning_counts.nd rfl (by first | exact Or.inl rfl | exact Or.inr rfl) (pe_call (ok__steps T) (hr.mono (by decide)) (by rfl) T.g__steps T.F__steps.kp (b__steps T) .nil pass0 (pa_cons (pv 2) pa_nil))) (pss_cons (ps_set (i := 4) sc_beginning_counts.nd rfl (by first | exact Or.inl rfl | exact Or.inr rfl) (pe_op op_cat (pe_lst (pa_cons pe_int pa_nil)) (pe_op op_rep (pe_lst (pa_cons pe_int pa_nil)) (pe_op op_sub (pe_callB call_lenD (by rfl) T.n_len (by decide +kernel) (pa_cons (pv 2) pa_nil)) pe_int)))) (pss_cons (ps_for PassesOwn.never rfl (pi_str (pv 1)) (pg_name (i := 5) sc_beginning_counts.nd rfl (by first | exact Or.inl rfl | exact Or.inr rfl)) (pss_cons (ps_set (i := 6) sc_beginning_counts.nd rfl (by first | exact Or.inl rfl | exact Or.inr rfl) (pe_lower (pv 5))) (pss_one (ps_if (pt_cmpR op_eq (pv 5) (pv 6) (nomark _)) (pss_one (ps_for PassesOwn.never rfl (pi_list (pe_revL (pe_dget2 (hu_of hr) (pv 3) (pv 6) (pe_lst pa_nil) ⟨rfl, rfl, rfl, rfl⟩))) (pg_tup (by rfl) (pgs_cons (pg_name (i := 7) sc_beginning_counts.nd rfl (by first | exact Or.inl rfl | exact Or.inr rfl)) (pgs_cons (pg_name (i := 8) sc_beginning_counts.nd rfl (by first | exact Or.inl rfl | exact Or.inr rfl)) pgs_nil))) (pss_one (ps_asg (pe_op op_add (pe_ix ix_list (pv 4) (pv 7) (fun _ _ => rfl)) (pe_ix ix_list (pv 4) (pv 8) (fun _ _ => rfl))) (pg_sub (pv 4) (pv 7) set_list))))) (pss_one (ps_for PassesOwn.never rfl (pi_list (pe_dget2 (hu_of hr) (pv 3) (pv 6) (pe_lst pa_nil) ⟨rfl, rfl, rfl, rfl⟩)) (pg_tup (by rfl) (pgs_cons (pg_name (i := 7) sc_beginning_counts.nd rfl (by first | exact Or.inl rfl | exact Or.inr rfl)) (pgs_cons (pg_name (i := 8) sc_beginning_counts.nd rfl (by first | exact Or.inl rfl | exact Or.inr rfl)) pgs_nil))) (pss_one (ps_asg (pe_op op_sub (pe_ix ix_list (pv 4) (pv 7) (fun _ _ => rfl)) (pe_ix ix_list (pv 4) (pv 8) (fun _ _ => rfl))) (pg_sub (pv 4) (pv 7) set_list))))))))) (pss_one (ps_ret (pe_lock (pe_dc (own := [("beginning", 9), ("at", 7)]) (g := (gTup K 2 (gCons (gName 9) (gCons (gName 7) gNil)))) (tt := tYes) rfl sc_beginning_counts.nd (pi_items (pv 2)) (blkOk_by (own := [("beginning", 9), ("at", 7)]) (N := N_beginning_counts) (sc := defScope s_beginning_counts) (by decide +kernel)) (fun _ _ _ _ _ => (pg_tup (by rfl) (pgs_cons (pg_name (i := 9) sc_beginning_counts.nd rfl (by first | exact Or.inl rfl | exact Or.inr rfl)) (pgs_cons (pg_name (i := 7) sc_beginning_counts.nd rfl (by first | exact Or.inl rfl | exact Or.inr rfl)) pgs_nil)))) (fun _ _ _ _ _ => pts_nil) (fun _ _ _ _ _ => (pv 9)) (fun _ _ _ _ _ => (pe_ix (ix_list : IxR _ (rIxL K)) (pv 4) (pv 7) (fun _ _ => rfl))))))))))), ?_⟩
    dsimp only [tNext, tSeq, tAsg, tC, gName]
    refine ⟨_, rfl, a, ws, m, rfl, hS, hm, hb, m1, fun d H1 bs e1 nd hd tr hc hl => ?_⟩
    refine ⟨_, rfl, d, bs, rfl, hd, tr, hl, fun p H2 e2 np hst => ?_⟩
    have bl : 0 < bs.length := (List.getElem?_eq_some_iff.mp tr.root).1
    refine ⟨by show 1 ≤ sizeLine; decide, fun p1 n1 => ?_⟩
    refine ⟨by show 1 ≤ sizeLine; decide, fun p2 n2 => ?_⟩
    have d12 : p2 ≠ p1 := fun e => by rw [e, upd_same] at n2; cases n2
    have n12 : upd H2 p1 (.lst [V.int 1]) p2 = none := n2
    have x1 := ex_upd (o := .lst [V.int 1]) n1
    have x2 := x1.trans (ex_upd (o := .lst [V.int 0]) n2)
    refine ⟨_, rfl, d, _, rfl, x2 _ _ (e2 _ _ hd), _, 1, rfl, rfl, ?_⟩
    rw [Nd.enc_len, idx_len]
    have bi : (((bs.length : Nat) : Int) - 1).toNat = bs.length - 1 := by omega
    refine ⟨p2, ((bs.length : Nat) : Int) - 1, _, rfl, rfl, upd_same, by omega, by omega, by rw [bi]; exact sz_of (by show 1 * _ ≤ _; omega), fun p3 n3 => ?_⟩
    rw [bi]
    have hz : (List.replicate (bs.length - 1) [V.int 0]).flatten = List.replicate (bs.length - 1) (V.int 0) := by
      generalize bs.length - 1 = k
      induction k with
      | zero => rfl
      | succ k ih => rw [List.replicate_succ, List.flatten_cons, ih, List.replicate_succ]; rfl
    rw [hz]
    have x3 := x2.trans (ex_upd (o := .lst (List.replicate (bs.length - 1) (V.int 0))) n3)
    refine ⟨p1, p3, _, _, rfl, rfl, ex_upd n3 _ _ (by rw [upd_ne d12.symm, upd_same]), upd_same, by rw [List.length_replicate]; exact sz_of (by show 1 + _ ≤ _; omega), fun pn n4 => ?_⟩
    rw [row_start tr bl]
    have npn : H2 pn = none := exn x3 n4
    have x4 := x3.trans (ex_upd (o := .lst (rowV bs.length (at1 (Tm.ser []) bs))) n4)
    have at0 : upd _ pn (.lst (rowV bs.length (at1 (Tm.ser []) bs))) pn = _ := upd_same (H := upd (upd (upd H2 p1 (.lst [V.int 1])) p2 (.lst [V.int 0])) p3 (.lst (List.replicate (bs.length - 1) (V.int 0))))
    generalize (upd (upd (upd (upd H2 p1 (.lst [V.int 1])) p2 (.lst [V.int 0])) p3 (.lst (List.replicate (bs.length - 1) (V.int 0)))) pn (.lst (rowV bs.length (at1 (Tm.ser []) bs)))) = H3 at x4 at0 ⊢
    refine forS (l := sgs t) (ev_var rfl) (fun i σ' H' => ∃ y5 y6 y7 y8 y9, σ' = [some (.ref a), some (tx (sgs t)), some (.ref d), some (.ref p), some (.ref pn), y5, y6, y7, y8, y9] ∧ Ex H2 H' ∧ H' pn = some (.lst (rowV bs.length (at1 (Tm.ser (t.take i)) bs)))) (fun H1 e1 => ⟨_, _, _, _, _, rfl, x4.trans e1, e1 _ _ at0⟩) (fun i c' σ' H4 hcc hp => ?_) (fun σ' H4 hp => ?_)
    · obtain ⟨y5, y6, y7, y8, y9, rfl, a1, a2⟩ := hp
      obtain ⟨e, he, hce⟩ : ∃ e, t[i]? = some e ∧ (if e.2 = true then e.1 - 32 else e.1) = c' := by
        unfold sgs at hcc
        rw [List.getElem?_map] at hcc
        cases q : t[i]? with
        | none => rw [q] at hcc; cases hcc
        | some e => rw [q] at hcc; exact ⟨e, rfl, Option.some.inj hcc⟩
      have er := ht e (List.mem_of_getElem? he)
      have lc : Low [e.1] := fun x hx => by rw [List.mem_singleton.mp hx]; exact er
      have nx1 : Tm.ser (t.take (i + 1)) = Tm.put (Tm.ser (t.take i)) e := by rw [take_one he, Tm.ser_snoc]
      have low1 : Txt.lower (mk [c']) = mk [e.1] := by
        rw [← hce]
        cases e.2 with
        | true => exact lower_cap er
        | false => exact lower_low lc
      refine ⟨_, rfl, ⟨_, rfl⟩, mk [c'], rfl, rfl, by show 1 ≤ 5592405; omega, ?_⟩
      rw [low1]
      obtain ⟨sl, u1, s2, u3⟩ := hst
      have s1 := a1 _ _ u1
      have hp4 : ∃ sl, H4 p = some (.dK (Nd.enc V.ref sl)) := ⟨sl, s1⟩
      cases hcap : e.2 with
      | false =>
        rw [hcap] at hce
        have hce : e.1 = c' := hce
        refine ⟨_, rfl, _, rfl, rfl, true, Rx.eq_same (by rw [hce]), iteT ?_⟩
        refine ⟨_, rfl, p, rfl, .inl (let ⟨sl, h⟩ := hp4; ⟨_, .inl h⟩), _, rfl, Nat.zero_le _, fun z hz => ?_⟩
        have ez := ex_upd (o := .lst []) hz
        obtain ⟨l, qs, hg, hl4, htw⟩ : ∃ l qs, (valV (Nd.enc V.ref sl) (.inr (mk [e.1]))).getD (.ref z) = .ref l ∧ upd H4 z (.lst []) l = some (.lst qs) ∧ Nd.TW K (upd H4 z (.lst [])) prV qs (prs bs e.1 bs.length) := by
          rw [Nd.val_enc]
          cases hv : Nd.val sl [e.1] with
          | none => exact ⟨z, [], rfl, upd_same, by rw [s2 e.1 hv]; trivial⟩
          | some l =>
            obtain ⟨qs, h1, h2⟩ := u3 e.1 l hv
            exact ⟨l, qs, rfl, ez _ _ (a1 _ _ h1), (h2.ex a1).ex ez⟩
        refine ⟨_, DGet.k (k := .inr (mk [e.1])) (ez _ _ s1), l, qs, hg, .inl (.inl hl4), fun rq nrq => ⟨rq, rfl, ⟨_, .inl (.inl upd_same)⟩, ?_⟩⟩
        have er2 := ex_upd (o := .lst qs.reverse) nrq
        have nr : pn ≠ rq := ex_ne (ez _ _ a2) nrq
        refine for_list (xs := qs.reverse) (fun k σ' H' => ∃ y7 y8, σ' = [some (.ref a), some (tx (sgs t)), some (.ref d), some (.ref p), some (.ref pn), some (tx [c']), some (tx [e.1]), y7, y8, y9] ∧ Ex H2 H' ∧ H' rq = some (.lst qs.reverse) ∧ Nd.TW K H' prV qs.reverse (ups bs e.1) ∧ H' pn = some (.lst (rowV bs.length (half (Tm.ser (t.take i)) (Tm.mul1 (Tm.ser (t.take i)) e.1) bs (ups bs e.1) k)))) ?_ (fun k σ' H' _ ⟨_, _, _, _, h, _⟩ => .inl (.inl h)) (fun k v σ' H5 hv hp => ?_) (fun σ' H5 hp => ?_)
        · refine ⟨_, _, rfl, (a1.trans ez).trans er2, upd_same, (htw.ex er2).rev, ?_⟩
          rw [rowV_ext fun m hm => half_zero _ _ bs (ups bs e.1) m]
          exact er2 _ _ (ez _ _ a2)
        · obtain ⟨y7, y8, rfl, b1, b2, b3, b4⟩ := hp
          obtain ⟨⟨x, y⟩, qq, hx, rfl, hq⟩ := b3.at hv
          obtain ⟨lx, ly, turn⟩ := turn_mul (f := Tm.ser (t.take i)) tr hx
          refine ⟨qq, _, rfl, hq, rfl, _, _, rfl, _, _, rfl, rfl, ?_⟩
          refine ⟨_, rfl, _, rfl, pn, _, _, _, rfl, rfl, .inl (.inl b4), atI_nat (rowV_at lx), _, rfl, _, rfl, pn, _, _, _, rfl, rfl, .inl (.inl b4), atI_nat (rowV_at ly), _, _, rfl, rfl, ?_⟩
          refine ⟨_, rfl, _, rfl, pn, _, _, x, rfl, rfl, b4, ixN_nat (by rw [rowV_len]; exact lx), ?_⟩
          refine ⟨_, _, rfl, b1.mut npn, by rw [upd_ne nr.symm]; exact b2, b3.imp fun q xs h => sqT_upL b4 h, ?_⟩
          rw [upd_same, rowV_set turn]
        · obtain ⟨y7, y8, rfl, b1, b2, b3, b4⟩ := hp
          refine ⟨_, _, _, _, _, rfl, b1, ?_⟩
          have hu : qs.reverse.length = (ups bs e.1).length := b3.len
          have pe : Tm.put (Tm.ser (t.take i)) e = Tm.mul1 (Tm.ser (t.take i)) e.1 := by unfold Tm.put; rw [hcap, if_neg (by decide)]
          rw [b4, hu, rowV_ext fun m hm => half_all (fun w g => same_mul (Tm.ser (t.take i)) g) (fun x => by unfold ups; rw [List.map_reverse, List.mem_reverse]) hm, nx1, pe]
      | true =>
        rw [hcap] at hce
        have hce : e.1 - 32 = c' := hce
        have ne : decide (tx [c'] = tx [e.1]) = false := decide_eq_false fun q => by
          have := tx_inj.mp q
          have := (List.cons.inj this).1
          omega
        refine ⟨_, rfl, _, rfl, rfl, false, by rw [ne], iteF ?_⟩
        refine ⟨_, rfl, p, rfl, .inl (let ⟨sl, h⟩ := hp4; ⟨_, .inl h⟩), _, rfl, Nat.zero_le _, fun z hz => ?_⟩
        have ez := ex_upd (o := .lst []) hz
        have nz : pn ≠ z := ex_ne a2 hz
        obtain ⟨l, qs, hg, hl4, hlp, htw⟩ : ∃ l qs, (valV (Nd.enc V.ref sl) (.inr (mk [e.1]))).getD (.ref z) = .ref l ∧ upd H4 z (.lst []) l = some (.lst qs) ∧ l ≠ pn ∧ Nd.TW K (upd H4 z (.lst [])) prV qs (prs bs e.1 bs.length) := by
          rw [Nd.val_enc]
          cases hv : Nd.val sl [e.1] with
          | none => exact ⟨z, [], rfl, upd_same, fun q => nz q.symm, by rw [s2 e.1 hv]; trivial⟩
          | some l =>
            obtain ⟨qs, h1, h2⟩ := u3 e.1 l hv
            exact ⟨l, qs, rfl, ez _ _ (a1 _ _ h1), ex_ne h1 npn, (h2.ex a1).ex ez⟩
        refine ⟨_, DGet.k (k := .inr (mk [e.1])) (ez _ _ s1), l, hg, ⟨_, .inl (.inl hl4)⟩, ?_⟩
        refine for_list (xs := qs) (fun k σ' H' => ∃ y7 y8, σ' = [some (.ref a), some (tx (sgs t)), some (.ref d), some (.ref p), some (.ref pn), some (tx [c']), some (tx [e.1]), y7, y8, y9] ∧ Ex H2 H' ∧ H' l = some (.lst qs) ∧ Nd.TW K H' prV qs (prs bs e.1 bs.length) ∧ H' pn = some (.lst (rowV bs.length (half (Tm.ser (t.take i)) (Tm.div1 (Tm.ser (t.take i)) e.1) bs (prs bs e.1 bs.length) k)))) ?_ (fun k σ' H' _ ⟨_, _, _, _, h, _⟩ => .inl (.inl h)) (fun k v σ' H5 hv hp => ?_) (fun σ' H5 hp => ?_)
        · refine ⟨_, _, rfl, a1.trans ez, hl4, htw, ?_⟩
          rw [rowV_ext fun m hm => half_zero _ _ bs (prs bs e.1 bs.length) m]
          exact ez _ _ a2
        · obtain ⟨y7, y8, rfl, b1, b2, b3, b4⟩ := hp
          obtain ⟨⟨x, y⟩, qq, hx, rfl, hq⟩ := b3.at hv
          obtain ⟨lx, ly, turn⟩ := turn_div (f := Tm.ser (t.take i)) tr hx
          refine ⟨qq, _, rfl, hq, rfl, _, _, rfl, _, _, rfl, rfl, ?_⟩
          refine ⟨_, rfl, _, rfl, pn, _, _, _, rfl, rfl, .inl (.inl b4), atI_nat (rowV_at lx), _, rfl, _, rfl, pn, _, _, _, rfl, rfl, .inl (.inl b4), atI_nat (rowV_at ly), _, _, rfl, rfl, ?_⟩
          refine ⟨_, rfl, _, rfl, pn, _, _, x, rfl, rfl, b4, ixN_nat (by rw [rowV_len]; exact lx), ?_⟩
          refine ⟨_, _, rfl, b1.mut npn, by rw [upd_ne hlp]; exact b2, b3.imp fun q xs h => sqT_upL b4 h, ?_⟩
          rw [upd_same, rowV_set turn]
        · obtain ⟨y7, y8, rfl, b1, b2, b3, b4⟩ := hp
          refine ⟨_, _, _, _, _, rfl, b1, ?_⟩
          have hu : qs.length = (prs bs e.1 bs.length).length := b3.len
          have pe : Tm.put (Tm.ser (t.take i)) e = Tm.div1 (Tm.ser (t.take i)) e.1 := by unfold Tm.put; rw [hcap, if_pos rfl]
          rw [b4, hu, rowV_ext fun m hm => half_all (fun w g => same_div (Tm.ser (t.take i)) g) (fun x => Iff.rfl) hm, nx1, pe]
    · obtain ⟨y5, y6, y7, y8, y9, rfl, a1, a2⟩ := hp
      have tlen : (sgs t).length = t.length := List.length_map _
      rw [tlen, List.take_length] at a2
      have hd4 := a1 _ _ (e2 _ _ hd)
      refine ⟨d, .dK (Nd.enc nV (idx bs)), hd4, trivial, fun od => ⟨_, rfl, d, _, _, rfl, upd_same, fun D nD => ?_⟩⟩
      have pd : pn ≠ d := fun z => by rw [z, hd4] at a2; cases a2
      have pf : upd H4 d (.frz od (.dK (Nd.enc nV (idx bs)))) pn = some (.lst (rowV bs.length (at1 (Tm.ser t) bs))) := by rw [upd_ne pd]; exact a2
      refine Nd.dc_items (fun i H6 => Ex (upd H4 d (.frz od (.dK (Nd.enc nV (idx bs))))) H6 ∧ H6 D = some (.dK (Nd.enc V.int (cts (Tm.ser t) (bs.take i))))) ⟨ex_upd nD, by rw [upd_same]; rfl⟩ (fun i H6 _ ⟨h, _⟩ => h _ _ upd_same) (fun i k v T6 H6 hk ⟨e6, hD⟩ hT => ?_) (fun H6 ⟨e6, hD⟩ => ?_)
      · obtain ⟨e, he, rfl, rfl⟩ := Nd.enc_at hk
        obtain ⟨h1, h2⟩ := idx_at he
        have il : i < bs.length := (List.getElem?_eq_some_iff.mp h1).1
        have e7 := e6.trans (ex_upd (o := .tup [kV (Sum.inr (mk e.1)), nV e.2]) hT)
        have g1 : atI (rowV bs.length (at1 (Tm.ser t) bs)) ((e.2 : Nat) : Int) = some (.int (Tm.ser t e.1.reverse)) := by
          rw [h2]
          refine atI_nat ?_
          rw [rowV_at il]
          unfold at1
          rw [getD_of h1]
        have nin : e.1 ∉ bs.take i := fun z => by
          obtain ⟨j, hj⟩ := List.getElem?_of_mem z
          have jl : j < i := by
            have := (List.getElem?_eq_some_iff.mp hj).1
            rw [List.length_take] at this
            omega
          rw [List.getElem?_take_of_lt jl] at hj
          have q1 := idx_val tr.nd hj
          rw [idx_val tr.nd h1] at q1
          cases q1
          omega
        refine ⟨T6, _, rfl, .inl (.inl upd_same), rfl, _, _, rfl, _, _, rfl, rfl, rfl, ?_⟩
        dsimp only [tYes]
        refine iteT ⟨_, rfl, _, rfl, _, rfl, pn, _, _, _, rfl, rfl, .inl (.inl (e7 _ _ pf)), g1, _, .inr (mk e.1), rfl, by rw [upd_ne (ex_ne hD hT)]; exact hD, ?_, e7.mut nD, ?_⟩
        · rw [Nd.enc_len]
          unfold cts
          rw [List.length_map, List.length_take]
          exact sz_lt (by omega)
        · have vn : Nd.val (cts (Tm.ser t) (bs.take i)) e.1 = none := by rw [Nd.val_none, cts_keys]; exact nin
          rw [upd_same, Nd.put_new (v := V.int) vn, take_one h1]
          unfold cts
          rw [List.map_append]
          rfl
      · rw [Nd.enc_len, idx_len, List.take_length] at hD
        have hdf := e6 _ _ (upd_same (H := H4) (a := d) (o := .frz od (.dK (Nd.enc nV (idx bs)))))
        have Dd : D ≠ d := fun z => by rw [z, hdf] at hD; cases hD
        refine ⟨hdf, q D _ bs (fun b o hb => ?_) (by rw [upd_ne Dd]; exact hD) tr.nd hc⟩
        have h4 := a1 _ _ (e2 _ _ (e1 _ _ hb))
        by_cases z : b = d
        · subst z
          rw [upd_same]
          rw [hd4] at h4
          exact h4
        · rw [upd_ne z]
          exact e6 _ _ (by rw [upd_ne z]; exact h4)
end
end K15
set_option Elab.async false
set_option linter.all false
set_option maxRecDepth 100000
set_option maxHeartbeats 4000000
namespace K15
open PySem PySem.Spec PyProof.Rows L2 Evl Bx
section
variable {P : Program} {w : World} {K : PySem.W.Frag} {mg : Str → Option Value} {base : Heap}
theorem fine_of {ts : Tm.Terms} (h : Tm.Fit ts) : Fine ts := by
  obtain ⟨m, h1, h2, h3⟩ := h.fit
  exact ⟨h.low, fun e he => by have := h1 e he; omega, by have := h.few; omega, fun e he => Nat.lt_of_le_of_lt (Tm.size_mem he) h.num⟩
theorem TV.imp : ∀ {H H' : Hp} {vs : List V} {ts : Tm.Terms}, (∀ q xs, SqT K H q xs → SqT K H' q xs) → TV K H vs ts → TV K H' vs ts
  | _, _, [], [], _, _ => trivial
  | _, _, _ :: _, _ :: _, x, ⟨⟨q, e, h⟩, r⟩ => ⟨⟨q, e, x _ _ h⟩, r.imp x⟩
  | _, _, [], _ :: _, _, h => h.elim
  | _, _, _ :: _, [], _, h => h.elim
theorem sgs_small (t : List Nat) : sgs (Tm.small t) = t := by
  unfold sgs Tm.small
  rw [List.map_map]
  conv => rhs; rw [← List.map_id t]
  exact List.map_congr_left fun c _ => rfl
theorem small_low {t : List Nat} (h : Low t) : ∀ e ∈ Tm.small t, 97 ≤ e.1 ∧ e.1 ≤ 122 := fun e he => by
  obtain ⟨c, hc, rfl⟩ := List.mem_map.mp he
  exact h c hc
def sp_terms (T : Tx K mg) : Sp := fun vs H Q _ => ∃ v ts, vs = [v] ∧ SumAt T H v ts ∧ ∀ p us H', Ex H H' → H p = none → H' p = some (.lst us) → TV K H' us ts → Q (.ref p) H'
theorem ok_Sum_terms (T : Tx K mg) : FnOk P w K mg base CX0 1 T.a_Sum_terms T.fd_Sum_terms ["self"] (sp_terms T) := by
  refine T.F_Sum_terms.ok sc_Sum_terms (fun vs H Q E h => ?_) (fun cdv A outer s H vs Q E hr h => ?_)
  · obtain ⟨_, _, rfl, _⟩ := h
    rfl
  · obtain ⟨v, ts, rfl, ⟨x, dx, l, us, rfl, h1, h2, h3⟩, q⟩ := h
    refine ⟨_, (pss_one (ps_ret (pe_callTy call_list_of (by rfl) T.n_list (by decide +kernel) (pa_cons (pe_fld (pv 0) rfl) pa_nil)))), ?_⟩
    refine ⟨_, rfl, x, _, dx, _, _, rfl, h1, T.cl_Sum, T.no_Sum__terms, rfl, ?_⟩
    exact ⟨l, us, rfl, .inl (.inl (.inl h2)), fun p hp => q p us _ (ex_upd hp) hp upd_same (h3.ex (ex_upd hp))⟩
def sp_worth (T : Tx K mg) : Sp := fun vs H Q _ => ∃ v ts t, vs = [v, tx t] ∧ SumAt T H v ts ∧ Tm.Fit ts ∧ Low t ∧ t.length ≤ 1000 ∧ ∀ H', Ex H H' → Q (.int (Tm.worth ts t)) H'
theorem ok_Sum_worth (T : Tx K mg) : FnOk P w K mg base CX0 3 T.a_Sum_worth T.fd_Sum_worth ["self", "text"] (sp_worth T) := by
  refine T.F_Sum_worth.ok sc_Sum_worth (fun vs H Q E h => ?_) (fun cdv A outer s H vs Q E hr h => ?_)
  · obtain ⟨_, _, _, rfl, _⟩ := h
    rfl
  · obtain ⟨v, ts, t, rfl, ⟨x, dx, l, us, rfl, h1, h2, h3⟩, fi, ht, tl, q⟩ := h
    obtain ⟨m, f1, f2, f3⟩ := fi.fit
    refine ⟨_, (pss_cons (ps_expr (pe_call (ok_need_text T) (hr.mono (by decide)) (by rfl) T.g_need_text T.F_need_text.kp (b_need_text T) .nil pass0 (pa_cons (pv 1) pa_nil))) (pss_cons (ps_set (i := 2) sc_Sum_worth.nd rfl (by first | exact Or.inl rfl | exact Or.inr rfl) (pe_call (ok_beginning_counts T) (hr.mono (by decide)) (by rfl) T.g_beginning_counts T.F_beginning_counts.kp (b_beginning_counts T) .nil pass0 (pa_cons (pe_lc (own := [("word", 3), ("_", 4)]) (g := (gTup K 2 (gCons (gName 3) (gCons (gName 4) gNil)))) (tt := tYes) rfl sc_Sum_worth.nd (pi_list (pe_fld (pv 0) rfl)) (blkOk_by (own := [("word", 3), ("_", 4)]) (N := N_Sum_worth) (sc := defScope s_Sum_worth) (by decide +kernel)) (fun _ _ _ _ _ => (pg_tup (by rfl) (pgs_cons (pg_name (i := 3) sc_Sum_worth.nd rfl (by first | exact Or.inl rfl | exact Or.inr rfl)) (pgs_cons (pg_name (i := 4) sc_Sum_worth.nd rfl (by first | exact Or.inl rfl | exact Or.inr rfl)) pgs_nil)))) (fun _ _ _ _ _ => pts_nil) (fun _ _ _ _ _ => (pv 3))) (pa_cons (pv 1) pa_nil)))) (pss_one (ps_ret (pe_callB (cr_sum rfl) (by rfl) T.n_sum (by decide +kernel) (pa_cons (pe_lc (own := [("word", 3), ("number", 5)]) (g := (gTup K 2 (gCons (gName 3) (gCons (gName 5) gNil)))) (tt := tYes) rfl sc_Sum_worth.nd (pi_list (pe_fld (pv 0) rfl)) (blkOk_by (own := [("word", 3), ("number", 5)]) (N := N_Sum_worth) (sc := defScope s_Sum_worth) (by decide +kernel)) (fun _ _ _ _ _ => (pg_tup (by rfl) (pgs_cons (pg_name (i := 3) sc_Sum_worth.nd rfl (by first | exact Or.inl rfl | exact Or.inr rfl)) (pgs_cons (pg_name (i := 5) sc_Sum_worth.nd rfl (by first | exact Or.inl rfl | exact Or.inr rfl)) pgs_nil)))) (fun _ _ _ _ _ => pts_nil) (fun _ _ _ _ _ => (pe_op op_mulW (pv 5) (pe_dget (hu_of hr) (pv 2) (pv 3) (fun _ _ => rfl))))) pa_nil)))))), ?_⟩
    refine ⟨_, rfl, t, rfl, ht, ?_⟩
    dsimp only [tNext, tSeq, tAsg, tC, gName]
    refine ⟨_, rfl, x, _, dx, _, _, rfl, h1, T.cl_Sum, T.no_Sum__terms, rfl, l, rfl, ⟨_, .inl (.inl h2)⟩, fun D nD => ?_⟩
    have ul := h3.len
    have fw := fi.few
    refine lc_list (xs := us) (fun i H2 => Ex H H2 ∧ H2 D = some (.lst (((ts.take i).map (·.1)).map tx))) ⟨ex_upd nD, upd_same⟩ (fun i H2 _ ⟨e2, _⟩ => .inl (.inl (e2 _ _ h2))) (fun i v H2 hv ⟨e2, hD⟩ => ?_) (fun H2 ⟨e2, hD⟩ => ?_)
    · obtain ⟨e, qq, he, rfl, hq⟩ := h3.at hv
      have il : i < ts.length := (List.getElem?_eq_some_iff.mp he).1
      refine ⟨qq, _, rfl, ex_t e2 hq, rfl, _, _, rfl, _, _, rfl, rfl, rfl, ?_⟩
      dsimp only [tYes]
      refine iteT ⟨_, rfl, _, hD, by rw [List.length_map, List.length_map, List.length_take]; exact sz_lt (by omega), e2.mut nD, ?_⟩
      rw [upd_same, take_one he, List.map_append, List.map_append]
      rfl
    · rw [ul, List.take_length] at hD
      refine ⟨_, rfl, D, ts.map (·.1), Tm.small t, m, by rw [sgs_small]; rfl, .inl (.inl hD), fun w hw => ?_, by rw [List.length_map]; exact f2, f3, small_low ht, by unfold Tm.small; rw [List.length_map]; exact tl, fun d H3 bs e3 hd nd hc => ?_⟩
      · obtain ⟨e, he, rfl⟩ := List.mem_map.mp hw
        exact f1 e he
      · have e03 := e2.trans e3
        refine ⟨_, rfl, x, _, dx, _, _, rfl, e03 _ _ h1, T.cl_Sum, T.no_Sum__terms, rfl, l, rfl, ⟨_, .inl (.inl (e03 _ _ h2))⟩, fun D2 nD2 => ?_⟩
        refine lc_list (xs := us) (fun i H4 => Ex H3 H4 ∧ H4 D2 = some (.lst (((ts.take i).map fun e => e.2 * ((Mx.cnt e.1 t : Nat) : Int)).map V.int))) ⟨ex_upd nD2, upd_same⟩ (fun i H4 _ ⟨e4, _⟩ => .inl (.inl (e4 _ _ (e03 _ _ h2)))) (fun i v H4 hv ⟨e4, hD2⟩ => ?_) (fun H4 ⟨e4, hD2⟩ => ?_)
        · obtain ⟨e, qq, he, rfl, hq⟩ := h3.at hv
          have il : i < ts.length := (List.getElem?_eq_some_iff.mp he).1
          have em : e ∈ ts := List.mem_of_getElem? he
          have hin : e.1 ∈ bs := by
            have := hc e.1 (List.mem_map_of_mem (f := (·.1)) em) e.1.length (Nat.le_refl _)
            rwa [List.take_length] at this
          refine ⟨qq, _, rfl, ex_t (e03.trans e4) hq, rfl, _, _, rfl, _, _, rfl, rfl, rfl, ?_⟩
          dsimp only [tYes]
          have cl : Mx.cnt e.1 t < 2 ^ 9000 := Nat.lt_of_le_of_lt (Mx.cnt_le t e.1) (Nat.pow_lt_pow_right (by decide) (by omega))
          have nl : e.2.natAbs < 2 ^ 9000 := Nat.lt_of_le_of_lt (Tm.size_mem em) (Nat.lt_trans fi.num (Nat.pow_lt_pow_right (by decide) (by omega)))
          refine iteT ⟨_, rfl, _, rfl, _, rfl, d, _, rfl, .inl ⟨_, .inr (mk e.1), .inl (e4 _ _ hd), rfl, by rw [Nd.val_enc, cts_val nd hin, Tm.ser_cnt _ t rfl]; rfl⟩, _, _, rfl, rfl, mul_ok nl (abs_nat cl), _, hD2, by rw [List.length_map, List.length_map, List.length_take]; exact sz_lt (by omega), e4.mut nD2, ?_⟩
          rw [upd_same, take_one he, List.map_append, List.map_append]
          rfl
        · rw [ul, List.take_length] at hD2
          exact ⟨D2, _, rfl, .inl (.inl hD2), q _ (e03.trans e4)⟩
end
end K15
set_option Elab.async false
set_option linter.all false
set_option maxRecDepth 100000
set_option maxHeartbeats 4000000
/-! Ty4: + and slices of tuples by their items; values that are data of a small depth -/
namespace Ty
open PySem PySem.Spec PyProof.Rows L2 Evl Bx Rx
section
variable {K : PySem.W.Frag} {H : Hp}
theorem catA_of {a b : Addr} {xs ys : List V} {Q : VK} (ha : SqT K H a xs) (hb : SqT K H b ys) (hz : xs.length + ys.length ≤ sizeLine) (q : ∀ p H', Ex H H' → SqT K H' p (xs ++ ys) → Q (.ref p) H') : rCatA K (.ref a) (.ref b) H Q := by
  refine ⟨a, b, xs, ys, rfl, rfl, ha, hb, hz, fun e => ?_, fun _ e => ?_, fun _ _ p np => q p _ (Ex.new np) (.inl (.inl upd_same))⟩
  · exact q b H (Ex.refl H) (by rw [e]; exact hb)
  · exact q a H (Ex.refl H) (by rw [e, List.append_nil]; exact ha)
theorem slA_of {a : Addr} {xs : List V} {lo hi : Option Int} {Q : VK} (ha : SqT K H a xs) (q : ∀ p H', Ex H H' → SqT K H' p (cutV xs lo hi) → Q (.ref p) H') : rSlA K (.ref a) lo hi H Q := by
  refine ⟨a, xs, rfl, ha, fun e => ?_, fun _ p np => q p _ (Ex.new np) (.inl (.inl upd_same))⟩
  have : cutV xs lo hi = xs := by
    unfold cutV
    rw [e.1, e.2, List.drop_zero, Nat.sub_zero, List.take_of_length_le (Nat.le_refl _)]
  exact q a H (Ex.refl H) (by rw [this]; exact ha)
/-- data of a small depth -/
def Dd (n : Nat) (K : PySem.W.Frag) (H : Hp) (v : V) : Prop := ∃ d, Dp K H v d ∧ d.canLay0 = true ∧ d.depth ≤ n
theorem Dd.ex {n : Nat} {H' : Hp} {v : V} (h : Dd n K H v) (e : Ex H H') : Dd n K H' v := let ⟨d, a, b⟩ := h; ⟨d, dp_ex e a, b⟩
theorem Dd.up {n m : Nat} {v : V} (h : Dd n K H v) (e : n ≤ m) : Dd m K H v := let ⟨d, a, b, c⟩ := h; ⟨d, a, b, by omega⟩
theorem dd_all {n : Nat} : ∀ {xs : List V}, (∀ x ∈ xs, Dd n K H x) → ∃ ds, DpAll K H xs ds ∧ PyData.canLayAll0 ds = true ∧ PyData.depthAll ds ≤ n
  | [], _ => ⟨[], .nil, rfl, Nat.zero_le _⟩
  | x :: xs, h => by
    obtain ⟨d, a, b, c⟩ := h x List.mem_cons_self
    obtain ⟨ds, a', b', c'⟩ := dd_all fun y hy => h y (List.mem_cons_of_mem _ hy)
    refine ⟨d :: ds, .cons a a', ?_, ?_⟩
    · show (PyData.canLay0 d && PyData.canLayAll0 ds) = true
      rw [b, b']
      rfl
    · show max (PyData.depth d) (PyData.depthAll ds) ≤ n
      omega
theorem dd_tup {n : Nat} {a : Addr} {xs : List V} (h : SqT K H a xs) (hx : ∀ x ∈ xs, Dd n K H x) : Dd (n + 1) K H (.ref a) := by
  obtain ⟨ds, a', b, c⟩ := dd_all hx
  refine ⟨.tuple ds, .tup h a', b, ?_⟩
  show PyData.depthAll ds + 1 ≤ n + 1
  omega
theorem dd_lst {n : Nat} {a : Addr} {xs : List V} (h : SqL K H a xs) (hx : ∀ x ∈ xs, Dd n K H x) : Dd (n + 1) K H (.ref a) := by
  obtain ⟨ds, a', b, c⟩ := dd_all hx
  refine ⟨.list ds, .lst h a', b, ?_⟩
  show PyData.depthAll ds + 1 ≤ n + 1
  omega
theorem dd_int (i : Int) : Dd 0 K H (.int i) := ⟨.int i, .int i, rfl, Nat.le_refl _⟩
theorem dd_bl (b : Bool) : Dd 0 K H (.bl b) := ⟨.bool b, .bl b, rfl, Nat.le_refl _⟩
theorem dd_non : Dd 0 K H .non := ⟨.none, .non, rfl, Nat.le_refl _⟩
theorem dd_str {z : Str} (h : z.cps.all (· < 0x110000) = true) : Dd 0 K H (.str z) := ⟨.str z, .str z, h, Nat.le_refl _⟩
theorem dd_low {l : List Nat} (h : Low l) : Dd 0 K H (tx l) := ⟨.str (mk l), .str (mk l), str_ok h, Nat.le_refl _⟩
theorem dd_txt (i : Int) : Dd 0 K H (.str (Str.ofString (toString i))) := by
  refine dd_str ?_
  rw [← Array.all_toList, List.all_eq_true]
  intro c hc
  rw [signs_ofString] at hc
  obtain ⟨ch, h1, rfl⟩ := List.mem_map.mp hc
  refine decide_eq_true ?_
  rcases int_sign i ch h1 with z | z
  · have := (digit_range z).2
    omega
  · subst z
    decide
theorem Dd.shaped {n : Nat} {v : V} (h : Dd n K H v) (hn : n ≤ 60) : ∃ d, Dp K H v d ∧ SeqAt.shaped d = true := by
  obtain ⟨d, a, b, c⟩ := h
  refine ⟨d, a, ?_⟩
  show (d.canLay0 && decide (d.depth ≤ 64)) = true
  rw [b, decide_eq_true (by omega)]
  rfl
/-- a value that may be asked -/
def Odd (K : PySem.W.Frag) (H : Hp) (v : V) : Prop := Dd 60 K H v ∨ ∃ a kvs, v = .ref a ∧ H a = some (.dK kvs)
theorem Odd.ex {H' : Hp} {v : V} (h : Odd K H v) (e : Ex H H') : Odd K H' v := by
  rcases h with h | ⟨a, kvs, h1, h2⟩
  · exact .inl (h.ex e)
  · exact .inr ⟨a, kvs, h1, e _ _ h2⟩
end
end Ty
namespace Ty
open PySem PySem.Spec PyProof.Rows L2 Evl Bx Rx
theorem mem_cut {xs : List V} {lo hi : Option Int} {x : V} (h : x ∈ cutV xs lo hi) : x ∈ xs := List.mem_of_mem_drop (List.mem_of_mem_take h)
theorem all_app {α : Type} {P : α → Prop} {xs ys : List α} (a : ∀ x ∈ xs, P x) (b : ∀ x ∈ ys, P x) : ∀ x ∈ xs ++ ys, P x := fun x hx => (List.mem_append.mp hx).elim (a x) (b x)
theorem all_one {α : Type} {P : α → Prop} {x : α} (a : P x) : ∀ y ∈ [x], P y := fun y hy => by rw [List.mem_singleton.mp hy]; exact a
end Ty
namespace Ty
open PySem PySem.Spec PyProof.Rows L2 Evl Bx Rx
/-- a heap without one object -/
def wo (z : Addr) (H : Hp) : Hp := fun b => if b = z then none else H b
theorem wo_get {z b : Addr} {H : Hp} {o : HO} (n : b ≠ z) (h : H b = some o) : wo z H b = some o := by
  unfold wo
  rw [if_neg n]
  exact h
theorem wo_ex {z : Addr} {H : Hp} : Ex (wo z H) H := fun b o h => by
  unfold wo at h
  by_cases n : b = z
  · rw [if_pos n] at h
    cases h
  · rw [if_neg n] at h
    exact h
theorem wo_of {z : Addr} {H H' : Hp} (n : H z = none) (e : Ex H H') : Ex H (wo z H') := fun b o h => wo_get (fun q => by rw [q, n] at h; cases h) (e b o h)
theorem wo_xg {z : Addr} {H H' : Hp} (e : Xg z H H') : Ex (wo z H) (wo z H') := fun b o h => by
  unfold wo at h
  by_cases n : b = z
  · rw [if_pos n] at h
    cases h
  · rw [if_neg n] at h
    exact wo_get n (e b o n h)
end Ty
namespace Ty
open PySem PySem.Spec PyProof.Rows L2 Evl Bx Rx
theorem wo_t {K : PySem.W.Frag} {z a : Addr} {H : Hp} {xs ys : List V} (hz : H z = some (.lst ys)) (h : SqT K H a xs) : SqT K (wo z H) a xs := by
  rcases h with (h | ⟨o, h⟩) | h
  · exact .inl (.inl (wo_get (fun e => by rw [e, hz] at h; cases h) h))
  · exact .inl (.inr ⟨o, wo_get (fun e => by rw [e, hz] at h; cases h) h⟩)
  · exact .inr h
end Ty
namespace Ty
open PySem PySem.Spec PyProof.Rows L2 Evl Bx Rx
/-- what follows, once for all ways that lead to it -/
theorem cut_rest {G : Prop} {H8 : Hp} (R : Hp → Prop) (use : (∀ H9, Ex H8 H9 → R H9) → G) (rest : ∀ H9, Ex H8 H9 → R H9) : G := use rest
/-- x = e, by what is known of its value -/
theorem asg_by {te : TE} {i : Nat} {D : Ends} {σ : L2.St} {H : Hp} (Good : V → Hp → Prop) (h : ∀ Q : VK, (∀ v H', Good v H' → Q v H') → te σ H Q) (k : ∀ v H', Good v H' → D.nx (σ.set i (some v)) H') : tAsg te (gName i) D σ H := h _ fun v H' g => k v H' g
end Ty
set_option Elab.async false
set_option linter.all false
set_option maxRecDepth 100000
set_option maxHeartbeats 4000000
namespace K15
open PySem PySem.Spec PyProof.Rows L2 Evl Bx
section
variable {P : Program} {w : World} {K : PySem.W.Frag} {mg : Str → Option Value} {base : Heap}
/-- the data of terms -/
def dE (e : Tm.Wd × Int) : PyData := .tuple [.str (mk e.1), .int e.2]
def dL (ts : Tm.Terms) : PyData := .list (ts.map dE)
theorem dp_TV : ∀ {H : Hp} {us : List V} {ts : Tm.Terms}, TV K H us ts → DpAll K H us (ts.map dE)
  | _, [], [], _ => .nil
  | _, _ :: _, e :: _, ⟨⟨q, r, h⟩, t⟩ => by
    subst r
    exact .cons (.tup h (.cons (.str _) (.cons (.int _) .nil))) (dp_TV t)
  | _, [], _ :: _, h => h.elim
  | _, _ :: _, [], h => h.elim
theorem sh_dL {ts : Tm.Terms} (h : Lows ts) : SeqAt.shaped (dL ts) = true := by
  have key : ∀ ts : Tm.Terms, Lows ts → PyData.canLayAll0 (ts.map dE) = true ∧ PyData.depthAll (ts.map dE) ≤ 2 := by
    intro ts
    induction ts with
    | nil => intro _; exact ⟨rfl, Nat.zero_le _⟩
    | cons e r ih =>
      intro h
      obtain ⟨a, b⟩ := ih fun x hx => h x (List.mem_cons_of_mem _ hx)
      have c0 : PyData.canLay0 (.str (mk e.1)) = true := str_ok (h e List.mem_cons_self)
      refine ⟨?_, ?_⟩
      · show (PyData.canLay0 (dE e) && PyData.canLayAll0 (r.map dE)) = true
        rw [a]
        show ((PyData.canLay0 (.str (mk e.1)) && (PyData.canLay0 (.int e.2) && true)) && true) = true
        rw [c0]
        rfl
      · show max (PyData.depth (dE e)) (PyData.depthAll (r.map dE)) ≤ 2
        have : PyData.depth (dE e) ≤ 2 := by
          show max 0 (max 0 0) + 1 ≤ 2
          omega
        omega
  obtain ⟨a, b⟩ := key ts h
  show (PyData.canLayAll0 (ts.map dE) && decide (PyData.depthAll (ts.map dE) + 1 ≤ 64)) = true
  rw [a, decide_eq_true (by omega)]
  rfl
theorem eqv_terms : ∀ ts us : Tm.Terms, PyData.eqvAll (ts.map dE) (us.map dE) = decide (ts = us)
  | [], [] => by simp [PyData.eqvAll]
  | [], _ :: _ => by simp [PyData.eqvAll]
  | _ :: _, [] => by simp [PyData.eqvAll]
  | e :: ts, f :: us => by
    show (((mk e.1 == mk f.1) && ((e.2 == f.2) && true)) && PyData.eqvAll (ts.map dE) (us.map dE)) = _
    rw [eqv_terms ts us]
    obtain ⟨a, n⟩ := e
    obtain ⟨b, m⟩ := f
    by_cases h1 : a = b <;> by_cases h2 : n = m <;> by_cases h3 : ts = us <;> simp [h1, h2, h3, mk_inj]
/-- what a sum is told to be beside a value -/
def SumTold (T : Tx K mg) (a : Addr) (y : V) (t : Bool) (H : Hp) : Prop := ∃ ts, Lows ts ∧ SumAt T H (.ref a) ts ∧
  ((∃ us, Lows us ∧ SumAt T H y us ∧ t = decide (ts = us)) ∨ ∃ tb, TyX K H y tb ∧ PySem.W.kitOne K tb (.ref T.C_Sum) = some false ∧ t = false)

/-- the greatest number of letters, -1 of none -/
def deg (ts : Tm.Terms) : Int := match ts.getLast? with
  | none => -1
  | some e => (e.1.length : Nat)
def sp_degree (T : Tx K mg) : Sp := fun vs H Q _ => ∃ v ts, vs = [v] ∧ SumAt T H v ts ∧ (∀ e ∈ ts, e.1.length ≤ 1000) ∧ Q (.int (deg ts)) H

end
end K15
set_option linter.all false
/-! Lx: all words over some letters, in order, and the rows of their counts -/
namespace Lx
open Mx
/-- all words of n letters over L, in order -/
def wd (L : List Nat) : Nat → List (List Nat)
  | 0 => [[]]
  | n + 1 => (wd L n).flatMap fun u => L.map fun a => u ++ [a]
theorem wd_len (L : List Nat) : ∀ n, (wd L n).length = L.length ^ n
  | 0 => rfl
  | n + 1 => by
    rw [wd, List.length_flatMap]
    have e : (wd L n).map (fun u => (L.map fun a => u ++ [a]).length) = (wd L n).map fun _ => L.length := by
      apply List.map_congr_left
      intro u _
      rw [List.length_map]
    rw [e, List.map_const', List.sum_replicate_nat, wd_len L n, Nat.pow_succ]
theorem flat_at {α β : Type} (f : α → List β) (m : Nat) (hf : ∀ a, (f a).length = m) : ∀ (l : List α) (i j : Nat), j < m → (l.flatMap f)[i * m + j]? = (l[i]?).bind fun a => (f a)[j]?
  | [], i, j, h => by simp
  | x :: l, 0, j, h => by
    rw [List.flatMap_cons, Nat.zero_mul, Nat.zero_add, List.getElem?_append_left (by rw [hf]; exact h)]
    rfl
  | x :: l, i + 1, j, h => by
    rw [List.flatMap_cons, List.getElem?_append_right (by rw [hf, Nat.add_mul]; omega), hf]
    have e : (i + 1) * m + j - m = i * m + j := by rw [Nat.add_mul]; omega
    rw [e, flat_at f m hf l i j h]
    rfl
/-- the word at a place: the one without its last letter, and this letter -/
theorem wd_at (L : List Nat) (n i j : Nat) (h : j < L.length) : (wd L (n + 1))[i * L.length + j]? = ((wd L n)[i]?).bind fun u => (L[j]?).map fun a => u ++ [a] := by
  rw [wd, flat_at _ L.length (fun a => by rw [List.length_map]) _ _ _ h]
  congr 1
  funext u
  rw [List.getElem?_map]
theorem wd_size (L : List Nat) : ∀ (n : Nat), ∀ u ∈ wd L n, u.length = n
  | 0, u, h => by
    rw [wd, List.mem_singleton] at h
    rw [h]
    rfl
  | n + 1, u, h => by
    rw [wd, List.mem_flatMap] at h
    obtain ⟨v, hv, hu⟩ := h
    obtain ⟨a, _, rfl⟩ := List.mem_map.mp hu
    rw [List.length_append, wd_size L n v hv]
    rfl
/-- the level n of the counts in p -/
def lev (L : List Nat) (n : Nat) (p : List Nat) : List Int := (wd L n).map fun u => ((cnt u p : Nat) : Int)
theorem lev_len (L : List Nat) (n : Nat) (p : List Nat) : (lev L n p).length = L.length ^ n := by rw [lev, List.length_map, wd_len]
theorem lev_zero (L p : List Nat) : lev L 0 p = [1] := by simp [lev, wd, cnt_nil]
theorem lev_empty (L : List Nat) (n : Nat) : lev L (n + 1) [] = List.replicate (L.length ^ (n + 1)) 0 := by
  apply List.ext_getElem
  · rw [lev_len, List.length_replicate]
  · intro i h1 h2
    rw [lev_len] at h1
    rw [List.getElem_replicate]
    simp only [lev, List.getElem_map]
    have hm : (wd L (n + 1))[i]'(by rw [wd_len]; exact h1) ∈ wd L (n + 1) := List.getElem_mem _
    rw [cnt_empty _ (fun e => by
      have := wd_size L (n + 1) _ hm
      rw [e] at this
      simp at this)]
    rfl
/-- the level n + 1 behind i numbers of the level n, for the letter at the place k -/
def part (L : List Nat) (n : Nat) (p : List Nat) (c i k : Nat) : List Int := (List.range (L.length ^ (n + 1))).map fun j =>
  if j / L.length < i then ((cnt ((wd L (n + 1)).getD j []) (p ++ [c]) : Nat) : Int) else ((cnt ((wd L (n + 1)).getD j []) p : Nat) : Int)
theorem part_len (L : List Nat) (n : Nat) (p : List Nat) (c i k : Nat) : (part L n p c i k).length = L.length ^ (n + 1) := by simp [part]
theorem lev_range (L : List Nat) (n : Nat) (p : List Nat) : lev L n p = (List.range (L.length ^ n)).map fun j => ((cnt ((wd L n).getD j []) p : Nat) : Int) := by
  apply List.ext_getElem
  · rw [lev_len, List.length_map, List.length_range]
  · intro i h1 h2
    rw [lev_len] at h1
    have hw : i < (wd L n).length := by rw [wd_len]; exact h1
    simp only [lev, List.getElem_map, List.getElem_range]
    rw [List.getD_eq_getElem?_getD, List.getElem?_eq_getElem hw]
    rfl
theorem part_zero (L : List Nat) (n : Nat) (p : List Nat) (c k : Nat) : part L n p c 0 k = lev L (n + 1) p := by
  rw [lev_range, part]
  apply List.map_congr_left
  intro j _
  rw [if_neg (Nat.not_lt_zero _)]
theorem part_all (L : List Nat) (n : Nat) (p : List Nat) (c k : Nat) : part L n p c (L.length ^ n) k = lev L (n + 1) (p ++ [c]) := by
  rw [lev_range, part]
  apply List.map_congr_left
  intro j hj
  have := List.mem_range.mp hj
  rw [if_pos (Nat.div_lt_of_lt_mul (by rw [Nat.mul_comm, ← Nat.pow_succ]; exact this))]
theorem part_at (L : List Nat) (n : Nat) (p : List Nat) (c i k j : Nat) (h : j < L.length ^ (n + 1)) : (part L n p c i k)[j]? =
    some (if j / L.length < i then ((cnt ((wd L (n + 1)).getD j []) (p ++ [c]) : Nat) : Int) else ((cnt ((wd L (n + 1)).getD j []) p : Nat) : Int)) := by
  unfold part
  rw [List.getElem?_map, List.getElem?_range h]
  rfl
theorem wd_get (L : List Nat) (n i j : Nat) (hi : i < L.length ^ n) (hj : j < L.length) : (wd L (n + 1)).getD (i * L.length + j) [] = (wd L n).getD i [] ++ [L.getD j 0] := by
  have hw : i < (wd L n).length := by rw [wd_len]; exact hi
  rw [List.getD_eq_getElem?_getD, wd_at L n i j hj, List.getElem?_eq_getElem hw, List.getElem?_eq_getElem hj, List.getD_eq_getElem?_getD, List.getElem?_eq_getElem hw, List.getD_eq_getElem?_getD, List.getElem?_eq_getElem hj]
  rfl
theorem slot_lt (L : List Nat) (n i k : Nat) (hi : i < L.length ^ n) (hk : k < L.length) : i * L.length + k < L.length ^ (n + 1) := by
  rw [Nat.pow_succ]
  calc i * L.length + k < i * L.length + L.length := by omega
    _ = (i + 1) * L.length := by rw [Nat.add_mul, Nat.one_mul]
    _ ≤ L.length ^ n * L.length := Nat.mul_le_mul_right _ hi
theorem slot_old (L : List Nat) (n : Nat) (p : List Nat) (c i k : Nat) (hi : i < L.length ^ n) (hk : k < L.length) :
    (part L n p c i k)[i * L.length + k]? = some ((cnt ((wd L n).getD i [] ++ [L.getD k 0]) p : Nat) : Int) := by
  rw [part_at _ _ _ _ _ _ _ (slot_lt L n i k hi hk), wd_get L n i k hi hk]
  have e : (i * L.length + k) / L.length = i := by
    rw [Nat.mul_comm, Nat.mul_add_div (by omega), Nat.div_eq_of_lt hk, Nat.add_zero]
  rw [e, if_neg (Nat.lt_irrefl _)]
theorem part_turn (L : List Nat) (nd : L.Nodup) (n : Nat) (p : List Nat) (c i k : Nat) (hi : i < L.length ^ n) (hk : k < L.length) (hc : L.getD k 0 = c) :
    part L n p c (i + 1) k = (part L n p c i k).set (i * L.length + k) (((cnt ((wd L n).getD i [] ++ [L.getD k 0]) p : Nat) : Int) + ((cnt ((wd L n).getD i []) p : Nat) : Int)) := by
  have sl := slot_lt L n i k hi hk
  apply List.ext_getElem?
  intro j
  by_cases hj : j < L.length ^ (n + 1)
  · rw [part_at _ _ _ _ _ _ _ hj]
    have hL : 0 < L.length := by omega
    have dm := Nat.div_add_mod j L.length
    have ml := Nat.mod_lt j hL
    have jd : j / L.length < L.length ^ n := Nat.div_lt_of_lt_mul (by rw [Nat.mul_comm, ← Nat.pow_succ]; exact hj)
    have ej : j = (j / L.length) * L.length + j % L.length := by rw [Nat.mul_comm]; exact dm.symm
    have wj : (wd L (n + 1)).getD j [] = (wd L n).getD (j / L.length) [] ++ [L.getD (j % L.length) 0] := by
      have q := wd_get L n (j / L.length) (j % L.length) jd ml
      rw [← ej] at q
      exact q
    by_cases q : j = i * L.length + k
    · subst q
      rw [List.getElem?_set_self (by rw [part_len]; exact hj)]
      have e : (i * L.length + k) / L.length = i := by
        rw [Nat.mul_comm, Nat.mul_add_div (by omega), Nat.div_eq_of_lt hk, Nat.add_zero]
      rw [if_pos (by rw [e]; omega), wd_get L n i k hi hk, cnt_snoc, if_pos hc, Int.natCast_add]
    · rw [List.getElem?_set_ne (fun z => q z.symm), part_at _ _ _ _ _ _ _ hj]
      by_cases a : j / L.length < i
      · rw [if_pos (by omega), if_pos a]
      · rw [if_neg a]
        by_cases b : j / L.length < i + 1
        · have eq : j / L.length = i := by omega
          have nk : j % L.length ≠ k := fun z => q (by rw [ej, eq, z])
          rw [if_pos b, wj, cnt_snoc, if_neg, Nat.add_zero]
          intro z
          rw [← hc] at z
          apply nk
          have h1 : L[j % L.length]? = L[k]? := by
            rw [List.getD_eq_getElem?_getD, List.getD_eq_getElem?_getD, List.getElem?_eq_getElem ml, List.getElem?_eq_getElem hk] at z
            rw [List.getElem?_eq_getElem ml, List.getElem?_eq_getElem hk]
            exact congrArg some z
          exact (List.getElem?_inj ml nd).mp h1
        · rw [if_neg b]
  · have z1 : (part L n p c (i + 1) k)[j]? = none := List.getElem?_eq_none_iff.mpr (by rw [part_len]; omega)
    rw [z1]
    symm
    exact List.getElem?_eq_none_iff.mpr (by rw [List.length_set, part_len]; omega)
/-- a sign that L has not changes no level -/
theorem cnt_other (p u : List Nat) (c : Nat) (h : c ∉ u) : cnt u (p ++ [c]) = cnt u p := by
  rcases List.eq_nil_or_concat u with rfl | ⟨v, a, rfl⟩
  · rw [cnt_nil, cnt_nil]
  · rw [List.concat_eq_append] at h ⊢
    rw [cnt_snoc, if_neg (fun e => h (by rw [e]; exact List.mem_append_right _ (List.mem_singleton.mpr rfl))), Nat.add_zero]
theorem wd_over (L : List Nat) : ∀ n, ∀ u ∈ wd L n, ∀ a ∈ u, a ∈ L
  | 0, u, h, a, ha => by
    rw [wd, List.mem_singleton] at h
    rw [h] at ha
    exact absurd ha (by simp)
  | n + 1, u, h, a, ha => by
    rw [wd, List.mem_flatMap] at h
    obtain ⟨v, hv, hu⟩ := h
    obtain ⟨b, hb, rfl⟩ := List.mem_map.mp hu
    rcases List.mem_append.mp ha with z | z
    · exact wd_over L n v hv a z
    · rw [List.mem_singleton] at z
      rw [z]
      exact hb
theorem lev_other (L : List Nat) (n : Nat) (p : List Nat) (c : Nat) (h : c ∉ L) : lev L n (p ++ [c]) = lev L n p := by
  unfold lev
  apply List.map_congr_left
  intro u hu
  rw [cnt_other p u c fun z => h (wd_over L n u hu c z)]
/-- all words up to d letters, in the order of texts -/
def upto (L : List Nat) : Nat → List (List Nat)
  | 0 => wd L 0
  | d + 1 => upto L d ++ wd L (d + 1)
def rows (L : List Nat) (d : Nat) (p : List Nat) : List (List Int) := (List.range (d + 1)).map fun n => lev L n p
theorem rows_flat (L : List Nat) (p : List Nat) : ∀ d, (rows L d p).flatten = (upto L d).map fun u => ((cnt u p : Nat) : Int)
  | 0 => by simp [rows, upto, lev]
  | d + 1 => by
    have ih := rows_flat L p d
    unfold rows at ih ⊢
    rw [List.range_succ, List.map_append, List.flatten_append, ih, upto, List.map_append]
    simp [lev]
end Lx
set_option Elab.async false
set_option linter.all false
set_option maxRecDepth 100000
set_option maxHeartbeats 4000000
/-! Gm: the greatest common divisor of numbers, Euclid's steps, and the divisor of all worths -/
namespace Gm
open Tm Mx
def gcdL (ns : List Int) : Nat := ns.foldl (fun g n => Nat.gcd g n.natAbs) 0
theorem fold_dvd (d : Nat) : ∀ (ns : List Int) (g : Nat), d ∣ ns.foldl (fun g n => Nat.gcd g n.natAbs) g ↔ d ∣ g ∧ ∀ n ∈ ns, (d : Int) ∣ n
  | [], g => by simp
  | n :: r, g => by
    rw [List.foldl_cons, fold_dvd d r, Nat.dvd_gcd_iff, ← Int.ofNat_dvd_left (z := n)]
    simp only [List.mem_cons, forall_eq_or_imp]
    exact ⟨fun ⟨⟨a, b⟩, c⟩ => ⟨a, b, c⟩, fun ⟨a, b, c⟩ => ⟨⟨a, b⟩, c⟩⟩
theorem gcdL_dvd (d : Nat) (ns : List Int) : d ∣ gcdL ns ↔ ∀ n ∈ ns, (d : Int) ∣ n := by
  unfold gcdL
  rw [fold_dvd]
  exact ⟨fun h => h.2, fun h => ⟨Nat.dvd_zero d, h⟩⟩
theorem gcdL_snoc (ns : List Int) (n : Int) : gcdL (ns ++ [n]) = Nat.gcd (gcdL ns) n.natAbs := by
  unfold gcdL
  rw [List.foldl_append]
  rfl
theorem eq_of_dvd {a b : Nat} (h : ∀ d : Nat, d ∣ a ↔ d ∣ b) : a = b := Nat.dvd_antisymm ((h a).mp (Nat.dvd_refl a)) ((h b).mpr (Nat.dvd_refl b))
theorem gcdL_congr {ns ms : List Int} (h : ∀ d : Nat, (∀ n ∈ ns, (d : Int) ∣ n) ↔ ∀ n ∈ ms, (d : Int) ∣ n) : gcdL ns = gcdL ms := eq_of_dvd fun d => by rw [gcdL_dvd, gcdL_dvd]; exact h d
theorem gcdL_of (ns : List Int) : ∀ n ∈ ns, ((gcdL ns : Nat) : Int) ∣ n := (gcdL_dvd _ ns).mp (Nat.dvd_refl _)
theorem gcdL_zero {ns : List Int} (h : gcdL ns = 0) : ∀ n ∈ ns, n = 0 := fun n hn => by
  have := gcdL_of ns n hn
  rw [h] at this
  exact Int.zero_dvd.mp this
theorem fold_mul (k : Int) : ∀ (ns : List Int) (g : Nat), (ns.map fun n => k * n).foldl (fun g n => Nat.gcd g n.natAbs) (k.natAbs * g) = k.natAbs * ns.foldl (fun g n => Nat.gcd g n.natAbs) g
  | [], _ => rfl
  | n :: r, g => by
    rw [List.map_cons, List.foldl_cons, List.foldl_cons, ← fold_mul k r, Int.natAbs_mul, Nat.gcd_mul_left]
theorem gcdL_mul (k : Int) (ns : List Int) : gcdL (ns.map fun n => k * n) = k.natAbs * gcdL ns := by
  unfold gcdL
  rw [← fold_mul k ns 0, Nat.mul_zero]
/-! Euclid's steps -/
def eu : Nat → Nat × Nat → Nat × Nat
  | 0, p => p
  | n + 1, p => eu n (p.2, p.1 % p.2)
theorem eu_gcd : ∀ (n : Nat) (p : Nat × Nat), Nat.gcd (eu n p).1 (eu n p).2 = Nat.gcd p.1 p.2
  | 0, _ => rfl
  | n + 1, p => by
    show Nat.gcd (eu n (p.2, p.1 % p.2)).1 (eu n (p.2, p.1 % p.2)).2 = _
    rw [eu_gcd n, Nat.gcd_comm p.1 p.2, Nat.gcd_rec p.2 p.1, Nat.gcd_comm]
theorem eu_succ : ∀ (n : Nat) (p : Nat × Nat), eu (n + 1) p = ((eu n p).2, (eu n p).1 % (eu n p).2)
  | 0, _ => rfl
  | n + 1, p => eu_succ n (p.2, p.1 % p.2)
/-- while the second is not 0 the product falls by halves -/
theorem eu_falls {p : Nat × Nat} : ∀ n, (∀ i ≤ n, 0 < (eu i p).2) → (eu (n + 1) p).2 < (eu (n + 1) p).1 ∧ 2 ^ n * ((eu (n + 1) p).1 * (eu (n + 1) p).2) ≤ p.2 * p.2
  | 0, h => by
    have h0 : 0 < p.2 := h 0 (Nat.le_refl 0)
    show p.1 % p.2 < p.2 ∧ 2 ^ 0 * (p.2 * (p.1 % p.2)) ≤ p.2 * p.2
    have := Nat.mod_lt p.1 h0
    refine ⟨this, ?_⟩
    rw [Nat.pow_zero, Nat.one_mul]
    exact Nat.mul_le_mul_left _ (Nat.le_of_lt this)
  | n + 1, h => by
    obtain ⟨a, b⟩ := eu_falls n fun i hi => h i (by omega)
    have h1 : 0 < (eu (n + 1) p).2 := h (n + 1) (Nat.le_refl _)
    rw [eu_succ (n + 1) p]
    generalize eu (n + 1) p = q at a b h1
    obtain ⟨l, k⟩ := q
    show l % k < k ∧ 2 ^ (n + 1) * (k * (l % k)) ≤ p.2 * p.2
    have m1 := Nat.mod_lt l h1
    refine ⟨m1, Nat.le_trans ?_ b⟩
    have e : l % k + k * (l / k) = l := Nat.mod_add_div l k
    have d1 : 1 ≤ l / k := (Nat.one_le_div_iff h1).mpr (Nat.le_of_lt a)
    have d2 : k * 1 ≤ k * (l / k) := Nat.mul_le_mul_left k d1
    have two : 2 * (l % k) ≤ l := by
      have m1' : l % k < k := m1
      omega
    have : k * (2 * (l % k)) ≤ k * l := Nat.mul_le_mul_left k two
    show 2 ^ (n + 1) * (k * (l % k)) ≤ 2 ^ n * (l * k)
    rw [Nat.pow_succ, Nat.mul_assoc]
    refine Nat.mul_le_mul_left _ ?_
    have e3 : k * (2 * (l % k)) = 2 * (k * (l % k)) := Nat.mul_left_comm _ _ _
    have e4 : k * l = l * k := Nat.mul_comm _ _
    omega
theorem eu_ends {p : Nat × Nat} {b : Nat} (hb : p.2 < 2 ^ b) : ∃ i ≤ 2 * b + 1, (eu i p).2 = 0 := by
  apply Decidable.byContradiction
  intro z
  have all : ∀ i ≤ 2 * b + 1, 0 < (eu i p).2 := fun i hi => by
    rcases Nat.eq_zero_or_pos (eu i p).2 with q | q
    · exact absurd ⟨i, hi, q⟩ z
    · exact q
  obtain ⟨a, c⟩ := eu_falls (p := p) (2 * b) fun i hi => all i (by omega)
  have h1 := all (2 * b + 1) (Nat.le_refl _)
  have h2 : 1 ≤ (eu (2 * b + 1) p).1 * (eu (2 * b + 1) p).2 := Nat.mul_pos (by omega) h1
  have h3 : p.2 * p.2 < 2 ^ b * 2 ^ b := Nat.mul_lt_mul'' hb hb
  rw [← Nat.pow_add] at h3
  have h4 : 2 ^ (2 * b) * 1 ≤ 2 ^ (2 * b) * ((eu (2 * b + 1) p).1 * (eu (2 * b + 1) p).2) := Nat.mul_le_mul_left _ h2
  have e : b + b = 2 * b := by omega
  rw [e] at h3
  omega
/-! counts of a word in texts no longer than it -/
theorem cnt_long : ∀ (t u : List Nat), t.length < u.length → cnt u t = 0
  | [], [], h => by simp at h
  | [], a :: u, _ => rfl
  | b :: t, [], h => by simp at h
  | b :: t, a :: u, h => by
    have h' : t.length + 1 < u.length + 1 := h
    rw [cnt_c, cnt_long t (a :: u) (by show t.length < u.length + 1; omega), cnt_long t u (by omega)]
    split <;> rfl
theorem cnt_same : ∀ (t u : List Nat), t.length = u.length → cnt u t = if u = t then 1 else 0
  | [], [], _ => rfl
  | [], a :: u, h => by simp at h
  | b :: t, [], h => by simp at h
  | b :: t, a :: u, h => by
    have h' : t.length + 1 = u.length + 1 := h
    rw [cnt_c, cnt_long t (a :: u) (by show t.length < u.length + 1; omega), cnt_same t u (by omega)]
    by_cases e : a = b
    · subst e
      by_cases q : u = t
      · subst q
        simp
      · simp [q]
    · simp [e]
theorem dvd_sum {d : Int} : ∀ {l : List Int}, (∀ x ∈ l, d ∣ x) → d ∣ l.sum
  | [], _ => by rw [List.sum_nil]; exact Int.dvd_zero d
  | x :: l, h => by
    rw [List.sum_cons]
    exact Int.dvd_add (h x List.mem_cons_self) (dvd_sum fun y hy => h y (List.mem_cons_of_mem _ hy))
theorem worth_dvd {d : Int} {ts : Terms} (h : ∀ e ∈ ts, d ∣ e.2) (t : Wd) : d ∣ worth ts t := by
  unfold worth
  refine dvd_sum fun x hx => ?_
  obtain ⟨e, he, rfl⟩ := List.mem_map.mp hx
  exact Int.dvd_mul_of_dvd_left (h e he)
/-- the worth at a word of its own: its number, and what shorter words bring -/
theorem dvd_own {d : Int} {e : Wd × Int} : ∀ {ts : Terms}, (ts.map (·.1)).Nodup → e ∈ ts → (∀ x ∈ ts, x.1.length < e.1.length → d ∣ x.2) → d ∣ worth ts e.1 → d ∣ e.2 := by
  have rest : ∀ ts : Terms, (∀ x ∈ ts, x.1 ≠ e.1) → (∀ x ∈ ts, x.1.length < e.1.length → d ∣ x.2) → d ∣ worth ts e.1 := by
    intro ts hn hs
    unfold worth
    refine dvd_sum fun y hy => ?_
    obtain ⟨x, hx, rfl⟩ := List.mem_map.mp hy
    rcases Nat.lt_trichotomy x.1.length e.1.length with z | z | z
    · exact Int.dvd_mul_of_dvd_left (hs x hx z)
    · rw [cnt_same e.1 x.1 z.symm, if_neg (hn x hx)]
      simp
    · rw [cnt_long e.1 x.1 z]
      simp
  intro ts
  induction ts with
  | nil => intro _ h; cases h
  | cons x r ih =>
    intro nd he hs hw
    have nd' := List.nodup_cons.mp nd
    have e0 : worth (x :: r) e.1 = x.2 * ((cnt x.1 e.1 : Nat) : Int) + worth r e.1 := rfl
    rcases List.mem_cons.mp he with z | z
    · subst z
      rw [e0, cnt_same e.1 e.1 rfl, if_pos rfl] at hw
      have hr := rest r (fun y hy q => nd'.1 (List.mem_map.mpr ⟨y, hy, q⟩)) fun y hy => hs y (List.mem_cons_of_mem _ hy)
      have := (Int.dvd_add_left hr).mp hw
      simpa using this
    · refine ih nd'.2 z (fun y hy => hs y (List.mem_cons_of_mem _ hy)) ?_
      rw [e0] at hw
      refine (Int.dvd_add_right ?_).mp hw
      have ne : x.1 ≠ e.1 := fun q => nd'.1 (List.mem_map.mpr ⟨e, z, q.symm⟩)
      rcases Nat.lt_trichotomy x.1.length e.1.length with y | y | y
      · exact Int.dvd_mul_of_dvd_left (hs x List.mem_cons_self y)
      · rw [cnt_same e.1 x.1 y.symm, if_neg ne]
        simp
      · rw [cnt_long e.1 x.1 y]
        simp
theorem dvd_words {d : Int} {ts : Terms} (nd : (ts.map (·.1)).Nodup) (hw : ∀ e ∈ ts, d ∣ worth ts e.1) : ∀ e ∈ ts, d ∣ e.2 := by
  have key : ∀ n, ∀ e ∈ ts, e.1.length < n → d ∣ e.2 := by
    intro n
    induction n with
    | zero => intro e _ h; omega
    | succ n ih =>
      intro e he hl
      exact dvd_own nd he (fun x hx hs => ih x hx (by omega)) (hw e he)
  exact fun e he => key (e.1.length + 1) e he (by omega)
theorem nf_nodup {ts : Terms} (h : Nf ts) : (ts.map (·.1)).Nodup := h.1.imp fun {a b} h (q : a = b) => wlt_irrefl b (by rw [q] at h; exact h)
theorem gcd_worths {ts : Terms} (h : Nf ts) {F : List Wd} (all : ∀ e ∈ ts, e.1 ∈ F) : gcdL (F.map fun t => worth ts t) = gcdL (ts.map (·.2)) := by
  refine gcdL_congr fun d => ⟨fun hd n hn => ?_, fun hd n hn => ?_⟩
  · obtain ⟨e, he, rfl⟩ := List.mem_map.mp hn
    exact dvd_words (nf_nodup h) (fun x hx => hd _ (List.mem_map.mpr ⟨x.1, all x hx, rfl⟩)) e he
  · obtain ⟨t, _, rfl⟩ := List.mem_map.mp hn
    exact worth_dvd (fun e he => hd _ (List.mem_map_of_mem (f := (·.2)) he)) t
theorem worth_abs (t : Wd) : ∀ ts : Terms, (worth ts t).natAbs ≤ size ts * 2 ^ t.length
  | [] => Nat.zero_le _
  | e :: r => by
    have ih := worth_abs t r
    have e0 : worth (e :: r) t = e.2 * ((cnt e.1 t : Nat) : Int) + worth r t := rfl
    rw [e0, size_cons, Nat.add_mul]
    refine Nat.le_trans (Int.natAbs_add_le _ _) (Nat.add_le_add ?_ ih)
    rw [Int.natAbs_mul, Int.natAbs_natCast]
    exact Nat.mul_le_mul_left _ (cnt_le t e.1)
/-! terms taken so often -/
def scale (k : Int) (ts : Terms) : Terms := ts.map fun e => (e.1, k * e.2)
theorem scale_tot (k : Int) (w : Wd) : ∀ ts : Terms, tot (scale k ts) w = k * tot ts w
  | [] => by simp [scale, tot]
  | e :: r => by
    show (if e.1 = w then k * e.2 else 0) + tot (scale k r) w = k * ((if e.1 = w then e.2 else 0) + tot r w)
    rw [scale_tot k w r, Int.mul_add]
    split <;> simp
theorem scale_nf {k : Int} (hk : k ≠ 0) {ts : Terms} (h : Nf ts) : Nf (scale k ts) := by
  refine ⟨?_, fun e he => ?_⟩
  · have : (scale k ts).map (·.1) = ts.map (·.1) := by unfold scale; rw [List.map_map]; rfl
    rw [this]
    exact h.1
  · obtain ⟨x, hx, rfl⟩ := List.mem_map.mp he
    exact Int.mul_ne_zero hk (h.2 x hx)
theorem gcd_scale (k : Int) {ts : Terms} (h : Nf ts) : gcdL ((nf (scale k ts)).map (·.2)) = k.natAbs * gcdL (ts.map (·.2)) := by
  by_cases hk : k = 0
  · subst hk
    have : nf (scale 0 ts) = [] := (nf_eq (us := []) (ts := scale 0 ts) ⟨List.Pairwise.nil, fun e he => by cases he⟩ fun w => by rw [scale_tot, Int.zero_mul]; rfl).symm
    rw [this]
    simp [gcdL]
  · rw [nf_id (scale_nf hk h), ← gcdL_mul]
    unfold scale
    rw [List.map_map, List.map_map]
    rfl
/-! all texts -/
theorem mem_wd {L : List Nat} : ∀ (n : Nat) (u : List Nat), u.length = n → (∀ c ∈ u, c ∈ L) → u ∈ Lx.wd L n
  | 0, u, h, _ => by
    rw [List.length_eq_zero_iff.mp h]
    exact List.mem_singleton.mpr rfl
  | n + 1, u, h, hc => by
    have ne : u ≠ [] := fun z => by rw [z] at h; cases h
    rw [Lx.wd, List.mem_flatMap]
    refine ⟨u.dropLast, mem_wd n _ (by rw [List.length_dropLast]; omega) fun c hx => hc c (List.dropLast_subset u hx), ?_⟩
    rw [List.mem_map]
    exact ⟨u.getLast ne, hc _ (List.getLast_mem ne), List.dropLast_concat_getLast ne⟩
def upto (L : List Nat) : Nat → List (List Nat)
  | 0 => [[]]
  | n + 1 => upto L n ++ Lx.wd L (n + 1)
theorem mem_upto {L : List Nat} (u : List Nat) (hc : ∀ c ∈ u, c ∈ L) : ∀ n, u.length ≤ n → u ∈ upto L n
  | 0, h => by
    rw [List.length_eq_zero_iff.mp (Nat.le_zero.mp h)]
    exact List.mem_singleton.mpr rfl
  | n + 1, h => by
    rw [upto, List.mem_append]
    by_cases z : u.length ≤ n
    · exact .inl (mem_upto u hc n z)
    · exact .inr (mem_wd (n + 1) u (by omega) hc)
theorem upto_len (L : List Nat) (u : List Nat) : ∀ n, u ∈ upto L n → u.length ≤ n
  | 0, h => by rw [List.mem_singleton.mp h]; exact Nat.le_refl _
  | n + 1, h => by
    rw [upto, List.mem_append] at h
    rcases h with h | h
    · exact Nat.le_succ_of_le (upto_len L u n h)
    · exact Nat.le_of_eq (Lx.wd_size L (n + 1) u h)
end Gm
set_option Elab.async false
set_option linter.all false
set_option maxRecDepth 100000
set_option maxHeartbeats 4000000
/-! Fm: the first text at which two sums part, exactly or by rests -/
namespace Fm
open Tm Mx
theorem lex_app : ∀ {u v : Wd} (x y : Wd), u.length = v.length → u < v → u ++ x < v ++ y
  | [], [], _, _, _, h => absurd h (List.lt_irrefl _)
  | [], _ :: _, _, _, h, _ => by simp at h
  | _ :: _, [], _, _, h, _ => by simp at h
  | a :: u, b :: v, x, y, l, h => by
    rw [List.cons_append, List.cons_append]
    rcases List.cons_lt_cons_iff.mp h with z | ⟨z, q⟩
    · exact List.cons_lt_cons_iff.mpr (.inl z)
    · exact List.cons_lt_cons_iff.mpr (.inr ⟨z, lex_app x y (by simpa using l) q⟩)
theorem lex_last : ∀ (u : Wd) {a b : Nat}, a < b → u ++ [a] < u ++ [b]
  | [], a, b, h => List.cons_lt_cons_iff.mpr (.inl h)
  | c :: u, a, b, h => List.cons_lt_cons_iff.mpr (.inr ⟨rfl, lex_last u h⟩)
theorem wd_up {L : List Nat} (up : L.Pairwise (· < ·)) : ∀ n, (Lx.wd L n).Pairwise (· < ·)
  | 0 => List.pairwise_singleton _ _
  | n + 1 => by
    rw [Lx.wd, List.pairwise_flatMap]
    refine ⟨fun u hu => List.pairwise_map.mpr (up.imp fun {a b} h => lex_last u h), ?_⟩
    refine List.Pairwise.imp_of_mem (fun {u v} hu hv h x hx y hy => ?_) (wd_up up n)
    obtain ⟨a, _, rfl⟩ := List.mem_map.mp hx
    obtain ⟨b, _, rfl⟩ := List.mem_map.mp hy
    exact lex_app [a] [b] ((Lx.wd_size L n u hu).trans (Lx.wd_size L n v hv).symm) h
theorem upto_up {L : List Nat} (up : L.Pairwise (· < ·)) : ∀ n, (Lx.upto L n).Pairwise wlt
  | 0 => List.pairwise_singleton _ _
  | n + 1 => by
    rw [Lx.upto, List.pairwise_append]
    refine ⟨upto_up up n, List.Pairwise.imp_of_mem (fun {u v} hu hv h => .inr ⟨(Lx.wd_size L _ u hu).trans (Lx.wd_size L _ v hv).symm, h⟩) (wd_up up (n + 1)), fun u hu v hv => .inl ?_⟩
    have h1 : u.length ≤ n := by
      have key : ∀ n, u ∈ Lx.upto L n → u.length ≤ n := by
        intro n
        induction n with
        | zero => intro h; rw [List.mem_singleton.mp h]; exact Nat.le_refl _
        | succ n ih =>
          intro h
          rw [Lx.upto, List.mem_append] at h
          rcases h with h | h
          · exact Nat.le_succ_of_le (ih h)
          · exact Nat.le_of_eq (Lx.wd_size L (n + 1) u h)
      exact key n hu
    have h2 := Lx.wd_size L (n + 1) v hv
    omega
theorem cnt_ahead {u t : Wd} (h : wlt t u) : cnt u t = 0 := by
  rcases h with h | ⟨h, h'⟩
  · exact Gm.cnt_long t u h
  · rw [Gm.cnt_same t u h, if_neg fun z => List.lt_irrefl t (by rw [z] at h'; exact h')]
def firstBy (b : Int) : Terms → Option Wd
  | [] => none
  | e :: r => if b ∣ e.2 then firstBy b r else some e.1
theorem firstBy_none {b : Int} : ∀ {ts : Terms}, firstBy b ts = none → ∀ e ∈ ts, b ∣ e.2
  | [], _, e, h => by cases h
  | x :: r, h, e, he => by
    unfold firstBy at h
    split at h
    · rename_i hx
      rcases List.mem_cons.mp he with z | z
      · rw [z]; exact hx
      · exact firstBy_none h e z
    · cases h
theorem firstBy_all {b : Int} : ∀ {ts : Terms}, (∀ e ∈ ts, b ∣ e.2) → firstBy b ts = none
  | [], _ => rfl
  | x :: r, h => by
    unfold firstBy
    rw [if_pos (h x List.mem_cons_self)]
    exact firstBy_all fun e he => h e (List.mem_cons_of_mem _ he)
theorem firstBy_at {b : Int} : ∀ {ts : Terms} {i : Nat} {e : Wd × Int}, ts[i]? = some e → (∀ x ∈ ts.take i, b ∣ x.2) → ¬ b ∣ e.2 → firstBy b ts = some e.1
  | [], _, _, h, _, _ => by simp at h
  | x :: r, 0, e, h, _, n => by
    cases h
    unfold firstBy
    rw [if_neg n]
  | x :: r, i + 1, e, h, a, n => by
    unfold firstBy
    rw [List.take_succ_cons] at a
    rw [if_pos (a x List.mem_cons_self)]
    exact firstBy_at (i := i) (by simpa using h) (fun y hy => a y (List.mem_cons_of_mem _ hy)) n
theorem firstBy_some {b : Int} : ∀ {ts : Terms} {w : Wd}, firstBy b ts = some w → ∃ i e, ts[i]? = some e ∧ e.1 = w ∧ (∀ x ∈ ts.take i, b ∣ x.2) ∧ ¬ b ∣ e.2
  | [], _, h => by cases h
  | x :: r, w, h => by
    unfold firstBy at h
    split at h
    · rename_i hx
      obtain ⟨i, e, h1, h2, h3, h4⟩ := firstBy_some h
      refine ⟨i + 1, e, by simpa using h1, h2, fun y hy => ?_, h4⟩
      rw [List.take_succ_cons] at hy
      rcases List.mem_cons.mp hy with z | z
      · rw [z]; exact hx
      · exact h3 y z
    · rename_i hx
      cases h
      exact ⟨0, x, rfl, rfl, fun y hy => by simp at hy, hx⟩
theorem firstBy_head {ts : Terms} (h : Nf ts) : firstBy 0 ts = ts.head?.map (·.1) := by
  cases ts with
  | nil => rfl
  | cons e r =>
    unfold firstBy
    rw [if_neg fun z => h.2 e List.mem_cons_self (Int.zero_dvd.mp z)]
    rfl
theorem firstBy_neg (b : Int) : ∀ ts : Terms, firstBy b (Gm.scale (-1) ts) = firstBy b ts
  | [] => rfl
  | e :: r => by
    show (if b ∣ -1 * e.2 then firstBy b (Gm.scale (-1) r) else some e.1) = if b ∣ e.2 then firstBy b r else some e.1
    have : b ∣ -1 * e.2 ↔ b ∣ e.2 := by
      rw [Int.neg_mul, Int.one_mul]
      exact Int.dvd_neg
    rw [firstBy_neg b r]
    by_cases z : b ∣ e.2
    · rw [if_pos z, if_pos (this.mpr z)]
    · rw [if_neg z, if_neg fun y => z (this.mp y)]
theorem worth_split (ts : Terms) (i : Nat) (t : Wd) : worth ts t = worth (ts.take i) t + worth (ts.drop i) t := by
  rw [← worth_app, List.take_append_drop]
theorem dvd_worth {b : Int} {ts : Terms} (h : ∀ e ∈ ts, b ∣ e.2) (t : Wd) : b ∣ worth ts t := Gm.worth_dvd h t
theorem worth_zero {ts : Terms} {t : Wd} (h : ∀ e ∈ ts, wlt t e.1) : worth ts t = 0 := by
  induction ts with
  | nil => rfl
  | cons e r ih =>
    rw [worth_cons, cnt_ahead (h e List.mem_cons_self), ih fun x hx => h x (List.mem_cons_of_mem _ hx)]
    simp
/-- ahead of the first word all is divisible, and at it the worth is its number but for what is -/
theorem first_part {b : Int} {ts : Terms} (nf : Nf ts) {i : Nat} {e : Wd × Int} (hi : ts[i]? = some e) (ha : ∀ x ∈ ts.take i, b ∣ x.2) (hn : ¬ b ∣ e.2) :
    ¬ b ∣ worth ts e.1 ∧ ∀ t, wlt t e.1 → b ∣ worth ts t := by
  have il : i < ts.length := (List.getElem?_eq_some_iff.mp hi).1
  have hd : ts.drop i = e :: ts.drop (i + 1) := by
    rw [List.drop_eq_getElem_cons il]
    congr 1
    exact (List.getElem?_eq_some_iff.mp hi).2
  have later : ∀ x ∈ ts.drop (i + 1), wlt e.1 x.1 := by
    have p : ((ts.drop i).map (·.1)).Pairwise wlt := by
      rw [List.map_drop]
      exact nf.1.drop
    rw [hd, List.map_cons, List.pairwise_cons] at p
    exact fun x hx => p.1 x.1 (List.mem_map_of_mem (f := (·.1)) hx)
  refine ⟨fun z => hn ?_, fun t ht => ?_⟩
  · rw [worth_split ts i, hd, worth_cons, Gm.cnt_same e.1 e.1 rfl, if_pos rfl, worth_zero later] at z
    have := (Int.dvd_add_right (dvd_worth ha e.1)).mp z
    simpa using this
  · rw [worth_split ts i, hd, worth_cons, cnt_ahead ht, worth_zero fun x hx => wlt_trans ht (later x hx)]
    have := dvd_worth ha t
    simpa using this
/-- at the very first word the worth is its number -/
theorem worth_head {e : Wd × Int} {r : Terms} (nf : Nf (e :: r)) : worth (e :: r) e.1 = e.2 := by
  rw [worth_cons, Gm.cnt_same e.1 e.1 rfl, if_pos rfl, worth_zero nf.head]
  simp
theorem worth_scale (k : Int) (t : Wd) : ∀ ts : Terms, worth (Gm.scale k ts) t = k * worth ts t
  | [] => by show (0 : Int) = k * 0; simp
  | e :: r => by
    show worth ((e.1, k * e.2) :: Gm.scale k r) t = _
    rw [worth_cons, worth_cons, worth_scale k t r, Int.mul_add, Int.mul_assoc]
def diff (ts us : Terms) : Terms := ts ++ Gm.scale (-1) us
theorem diff_tot (ts us : Terms) (w : Wd) : tot (diff ts us) w = tot ts w - tot us w := by
  unfold diff
  rw [tot_app, Gm.scale_tot]
  omega
theorem diff_worth (ts us : Terms) (t : Wd) : worth (nf (diff ts us)) t = worth ts t - worth us t := by
  rw [worth_nf]
  unfold diff
  rw [worth_app, worth_scale]
  omega
theorem diff_nf (ts us : Terms) : nf (diff (nf ts) (nf us)) = nf (diff ts us) := nf_congr fun w => by rw [diff_tot, diff_tot, nf_tot, nf_tot]
theorem diff_turn (ts us : Terms) : nf (diff us ts) = Gm.scale (-1) (nf (diff ts us)) :=
  (nf_eq (Gm.scale_nf (by decide) (nf_nf _)) fun w => by rw [Gm.scale_tot, nf_tot, diff_tot, diff_tot]; omega).symm
theorem diff_self (ts : Terms) : nf (diff ts ts) = [] := (nf_eq (us := []) ⟨List.Pairwise.nil, fun e he => by cases he⟩ fun w => by rw [diff_tot]; show (0 : Int) = _; omega).symm
theorem diff_none {ts us : Terms} (h : nf (diff ts us) = []) : nf ts = nf us := nf_congr fun w => by
  have := nf_tot (diff ts us) w
  rw [h, diff_tot] at this
  have t0 : tot [] w = 0 := rfl
  omega
end Fm
set_option Elab.async false
set_option linter.all false
set_option maxRecDepth 100000
set_option maxHeartbeats 4000000
namespace K15
open PySem PySem.Spec PyProof.Rows L2 Evl Bx
section
variable {P : Program} {w : World} {K : PySem.W.Frag} {mg : Str → Option Value} {base : Heap}
theorem make_sum (T : Tx K mg) {H : Hp} {a : Addr} {ts : Tm.Terms} {R : Addr → V → Hp → Prop} (hT : TL K H a ts) (fi : Fine ts) (q : ∀ x H', Ex H H' → SumAt T H' (.ref x) (Tm.nf ts) → R x .non H') :
    ∀ x dx, H x = none → H dx = none → dx ≠ x → sp_init T (.ref x :: ([.ref a] ++ [])) (upd (upd H dx (.own x)) x (.ins T.C_Sum dx [])) (fun v H2 => R x v H2) E0 := by
  intro y dy ny ndy dn
  have e3 : Ex H (upd (upd H dy (.own y)) y (.ins T.C_Sum dy [])) := (ex_upd ndy).trans (ex_upd (by rw [upd_ne dn.symm]; exact ny))
  exact ⟨y, dy, a, ts, rfl, upd_same, hT.ex e3, fi, fun H' xg hs _ => q _ H' (fun b o hb => xg b o (fun z => by rw [z, ny] at hb; cases hb) (e3 b o hb)) hs⟩
theorem make_new (T : Tx K mg) {H : Hp} {a : Addr} {ts : Tm.Terms} {R : Addr → V → Hp → Prop} (hT : TL K H a ts) (fi : Fine ts) (q : ∀ x H', Ex H H' → SumAt T H' (.ref x) (Tm.nf ts) → (∀ d l, H' x = some (.ins T.C_Sum d [("_terms", .ref l)]) → H l = none) → R x .non H') :
    ∀ x dx, H x = none → H dx = none → dx ≠ x → sp_init T (.ref x :: ([.ref a] ++ [])) (upd (upd H dx (.own x)) x (.ins T.C_Sum dx [])) (fun v H2 => R x v H2) E0 := by
  intro y dy ny ndy dn
  have e3 : Ex H (upd (upd H dy (.own y)) y (.ins T.C_Sum dy [])) := (ex_upd ndy).trans (ex_upd (by rw [upd_ne dn.symm]; exact ny))
  exact ⟨y, dy, a, ts, rfl, upd_same, hT.ex e3, fi, fun H' xg hs hn => q _ H' (fun b o hb => xg b o (fun z => by rw [z, ny] at hb; cases hb) (e3 b o hb)) hs fun d l h => exn e3 (hn d l h)⟩
def sp_numbers (T : Tx K mg) : Sp := fun vs H Q _ => ∃ (d : Addr) (l : Tm.Terms), vs = [.ref d] ∧ H d = some (.dK (Nd.enc V.int l)) ∧ Fine l ∧ l.length < 90000 ∧ ∀ z H', Ex H H' → SumAt T H' z (Tm.nf l) → Q z H'

theorem wide_of {i : Int} (h : i.natAbs < 2 ^ 4000) : i.natAbs < 2 ^ 9000 := Nat.lt_of_lt_of_le h (Nat.pow_le_pow_right (by decide) (by decide))
theorem scale_take {k : Int} {ts : Tm.Terms} {i : Nat} {e : Tm.Wd × Int} (h : ts[i]? = some e) : Gm.scale k (ts.take (i + 1)) = Gm.scale k (ts.take i) ++ [(e.1, k * e.2)] := by
  rw [take_one h]
  unfold Gm.scale
  rw [List.map_append]
  rfl
def sp_times (T : Tx K mg) : Sp := fun vs H Q _ => ∃ k v ts, vs = [.int k, v] ∧ SumAt T H v ts ∧ Fine ts ∧ k.natAbs < 2 ^ 4000 ∧ Fine (Gm.scale k ts) ∧ ∀ z H', Ex H H' → SumAt T H' z (Tm.nf (Gm.scale k ts)) → Q z H'

def sp_difference (T : Tx K mg) : Sp := fun vs H Q _ => ∃ v u ts us, vs = [v, u] ∧ SumAt T H v ts ∧ SumAt T H u us ∧ Fine ts ∧ Fine us ∧ ts.length + us.length ≤ 1000 ∧ ∀ z H', Ex H H' → SumAt T H' z (Tm.nf (Fm.diff ts us)) → Q z H'
theorem fine_diff {ts us : Tm.Terms} (f : Fine ts) (g : Fine us) (h : ts.length + us.length ≤ 1000) : Fine (Fm.diff ts us) := by
  have el : (Fm.diff ts us).length = ts.length + us.length := by unfold Fm.diff Gm.scale; rw [List.length_append, List.length_map]
  have at_ : ∀ e ∈ Fm.diff ts us, e ∈ ts ∨ ∃ x ∈ us, e = (x.1, -1 * x.2) := fun e he => by
    rcases List.mem_append.mp he with h | h
    · exact .inl h
    · obtain ⟨x, hx, rfl⟩ := List.mem_map.mp h
      exact .inr ⟨x, hx, rfl⟩
  refine ⟨fun e he => ?_, fun e he => ?_, by omega, fun e he => ?_⟩ <;> rcases at_ e he with z | ⟨x, hx, rfl⟩
  · exact f.low e z
  · exact g.low x hx
  · exact f.len e z
  · exact g.len x hx
  · exact f.num e z
  · have := g.num x hx
    show (-1 * x.2).natAbs < _
    rw [Int.natAbs_mul]
    simpa using this

/-- a word, or None -/
def ov : Option Tm.Wd → V
  | none => .non
  | some w => tx w
def sp_parting (T : Tx K mg) : Sp := fun vs H Q _ => ∃ v u ts us, vs = [v, u] ∧ SumAt T H v ts ∧ SumAt T H u us ∧ Fine ts ∧ Fine us ∧ ts.length + us.length ≤ 1000 ∧ ∀ H', Ex H H' → Q (ov (Fm.firstBy 0 (Tm.nf (Fm.diff ts us)))) H'

theorem sub_mk (a u : List Nat) (i : Nat) : Builtin.Str.subAt (mk a) (mk u) i = decide ((a.drop i).take u.length = u) := by
  unfold Builtin.Str.subAt
  show (a.toArray.extract i (i + u.toArray.size) == u.toArray) = _
  have key : (a.toArray.extract i (i + u.toArray.size) = u.toArray) ↔ (a.drop i).take u.length = u := by
    rw [List.extract_toArray, List.size_toArray]
    constructor
    · intro h
      have := congrArg Array.toList h
      rw [List.extract_eq_take_drop, Nat.add_sub_cancel_left] at this
      exact this
    · intro h
      rw [List.extract_eq_take_drop, Nat.add_sub_cancel_left, h]
  by_cases z : a.toArray.extract i (i + u.toArray.size) = u.toArray
  · rw [decide_eq_true (key.mp z)]
    exact beq_iff_eq.mpr z
  · rw [decide_eq_false (fun q => z (key.mpr q))]
    exact beq_eq_false_iff_ne.mpr z
theorem starts_mk (a u : List Nat) : Txt.startswith (mk a) (mk u) = decide (a.take u.length = u) := by
  unfold Txt.startswith
  rw [sub_mk, mk_len, mk_len, List.drop_zero, Nat.zero_add]
  by_cases h : a.take u.length = u
  · have := congrArg List.length h
    rw [List.length_take] at this
    rw [decide_eq_true h, decide_eq_true (by omega)]
    rfl
  · rw [decide_eq_false h, Bool.and_false]
def sp_front (T : Tx K mg) : Sp := fun vs H Q _ => ∃ v ts u, vs = [v, tx u] ∧ SumAt T H v ts ∧ Tm.Fit ts ∧ Low u ∧ u.length ≤ 1000 ∧ ∀ z H', Ex H H' → SumAt T H' z (Tm.nf (Tm.front u ts)) → Q z H'

def sp_plus (T : Tx K mg) : Sp := fun vs H Q _ => ∃ v u ts us, vs = [v, u] ∧ SumAt T H v ts ∧ SumAt T H u us ∧ Fine (ts ++ us) ∧ ts.length + us.length ≤ 90000 ∧ ∀ z H', Ex H H' → SumAt T H' z (Tm.nf (ts ++ us)) → Q z H'
theorem TV.app : ∀ {H : Hp} {vs us : List V} {ts ss : Tm.Terms}, TV K H vs ts → TV K H us ss → TV K H (vs ++ us) (ts ++ ss)
  | _, [], _, [], _, _, h => h
  | _, _ :: _, _, _ :: _, _, ⟨a, r⟩, h => ⟨a, r.app h⟩
  | _, [], _, _ :: _, _, h, _ => h.elim
  | _, _ :: _, _, [], _, h, _ => h.elim

/-- the terms whose words have no other letters -/
def inside (L : List Nat) (ts : Tm.Terms) : Tm.Terms := ts.filter fun e => over L e.1
def sp_within (T : Tx K mg) : Sp := fun vs H Q _ => ∃ v ts L, vs = [v, tx L] ∧ SumAt T H v ts ∧ Alph L ∧ Fine ts ∧ ∀ z H', Ex H H' → SumAt T H' z (Tm.nf (inside L ts)) → Q z H'

end
end K15
set_option Elab.async false
set_option linter.all false
set_option maxRecDepth 100000
set_option maxHeartbeats 4000000
namespace K15
open PySem PySem.Spec PyProof.Rows L2 Evl Bx
section
variable {P : Program} {w : World} {K : PySem.W.Frag} {mg : Str → Option Value} {base : Heap}
def sp__law_worth (K : PySem.W.Frag) : Sp := fun vs H Q _ => ∃ (a : Addr) (ts : Tm.Terms) (t : List Nat), vs = [.ref a, tx t] ∧ TL K H a ts ∧ Fine ts ∧ t.length ≤ 1000 ∧ ∀ H', Ex H H' → Q (.int (Tm.worth ts t)) H'
theorem ok__law_worth (T : Tx K mg) : FnOk P w K mg base CX0 2 T.a__law_worth T.fd__law_worth ["_law_terms_here", "_law_text"] (sp__law_worth K) := by
  refine T.F__law_worth.ok sc__law_worth (fun vs H Q E h => ?_) (fun cdv A outer s H vs Q E hr h => ?_)
  · obtain ⟨_, _, _, rfl, _⟩ := h
    rfl
  · obtain ⟨a, ts, t, rfl, ⟨us, hS, hT⟩, fi, tl, q⟩ := h
    refine ⟨_, (pss_one (ps_ret (pe_callB (cr_sum rfl) (by rfl) T.n_sum (by decide +kernel) (pa_cons (pe_lc (own := [("_law_word_here", 2), ("_law_number_here", 3)]) (g := (gTup K 2 (gCons (gName 2) (gCons (gName 3) gNil)))) (tt := tYes) rfl sc__law_worth.nd (pi_list (pv 0)) (blkOk_by (own := [("_law_word_here", 2), ("_law_number_here", 3)]) (N := N__law_worth) (sc := defScope s__law_worth) (by decide +kernel)) (fun _ _ _ _ _ => (pg_tup (by rfl) (pgs_cons (pg_name (i := 2) sc__law_worth.nd rfl (by first | exact Or.inl rfl | exact Or.inr rfl)) (pgs_cons (pg_name (i := 3) sc__law_worth.nd rfl (by first | exact Or.inl rfl | exact Or.inr rfl)) pgs_nil)))) (fun _ _ _ _ _ => pts_nil) (fun _ _ _ _ _ => (pe_op op_mulW (pv 3) (pe_call (ok__law_count T) (hr.mono (by decide)) (by rfl) T.g__law_count T.F__law_count.kp (b__law_count T) .nil pass0 (pa_cons (pv 2) (pa_cons (pv 1) pa_nil)))))) pa_nil)))), ?_⟩
    refine ⟨_, rfl, a, rfl, ⟨_, hS⟩, fun D nD => ?_⟩
    have ul := hT.len
    have fw := fi.few
    refine lc_list (xs := us) (fun i H4 => Ex H H4 ∧ H4 D = some (.lst (((ts.take i).map fun e => e.2 * ((Mx.cnt e.1 t : Nat) : Int)).map V.int))) ⟨ex_upd nD, upd_same⟩ (fun i H4 _ ⟨e4, _⟩ => ex_l e4 hS) (fun i v H4 hv ⟨e4, hD2⟩ => ?_) (fun H4 ⟨e4, hD2⟩ => ?_)
    · obtain ⟨e, qq, he, rfl, hq⟩ := hT.at hv
      have il : i < ts.length := (List.getElem?_eq_some_iff.mp he).1
      have em : e ∈ ts := List.mem_of_getElem? he
      refine ⟨qq, _, rfl, ex_t e4 hq, rfl, _, _, rfl, _, _, rfl, rfl, rfl, ?_⟩
      dsimp only [tYes]
      have cl : Mx.cnt e.1 t < 2 ^ 9000 := Nat.lt_of_le_of_lt (Mx.cnt_le t e.1) (Nat.pow_lt_pow_right (by decide) (by omega))
      have nl : e.2.natAbs < 2 ^ 9000 := Nat.lt_trans (fi.num e em) (Nat.pow_lt_pow_right (by decide) (by omega))
      refine iteT ⟨_, rfl, _, rfl, _, rfl, e.1, t, rfl, fi.len e em, tl, fun H5 e5 => ?_⟩
      refine ⟨_, _, rfl, rfl, mul_ok nl (abs_nat cl), _, e5 _ _ hD2, by rw [List.length_map, List.length_map, List.length_take]; exact sz_lt (by omega), (e4.trans e5).mut nD, ?_⟩
      rw [upd_same, take_one he, List.map_append, List.map_append]
      rfl
    · rw [ul, List.take_length] at hD2
      exact ⟨D, _, rfl, .inl (.inl hD2), q _ e4⟩
def sp__law_is_whole (K : PySem.W.Frag) : Sp := fun vs H Q _ => ∃ i : Int, vs = [.int i, .int i] ∧ Q (.bl true) H

def sp__law_is_sum (T : Tx K mg) : Sp := fun vs H Q _ => ∃ (v : V) (a : Addr) (ts : Tm.Terms), vs = [v, .ref a] ∧ SumAt T H v ts ∧ TL K H a ts ∧ Lows ts ∧ ∀ H', Ex H H' → Q (.bl true) H'
theorem ok__law_is_sum (T : Tx K mg) : FnOk P w K mg base CX0 2 T.a__law_is_sum T.fd__law_is_sum ["_law_told", "_law_due"] (sp__law_is_sum T) := by
  refine T.F__law_is_sum.ok sc__law_is_sum (fun vs H Q E h => ?_) (fun cdv A outer s H vs Q E hr h => ?_)
  · obtain ⟨_, _, _, rfl, _⟩ := h
    rfl
  · obtain ⟨v, a, ts, rfl, hs, ⟨us, hS, hT⟩, hl, q⟩ := h
    have hs' := hs
    obtain ⟨x, dx, l, ws, rfl, h1, h2, h3⟩ := hs'
    refine ⟨_, (pss_cons (ps_if (pt_not (pt_val (pe_callB call_isi (by rfl) T.n_isinstance (by decide +kernel) (pa_cons (pv 0) (pa_cons (pe_glob (v := .ref T.C_Sum) (by rfl) T.g_Sum rfl) pa_nil))))) (pss_one (ps_ret pe_bl)) pss_nil) (pss_cons (ps_set (i := 2) sc__law_is_sum.nd rfl (by first | exact Or.inl rfl | exact Or.inr rfl) (pe_meth0 (pv 0) T.cl_Sum T.m_Sum_terms (ok_Sum_terms T) (hr.mono (by decide)) (b_Sum_terms T) .nil pass0)) (pss_cons (ps_if (PW.pt (pw_or (pt_not (pt_val (pe_callB call_isi (by rfl) T.n_isinstance (by decide +kernel) (pa_cons (pv 2) (pa_cons (pe_bltn (v := .ty "list") (u := .type "list") (by rfl) T.n_list (by decide +kernel) rfl) pa_nil))))) (pw_or1 (pt_cmpR (op_neD hr.units) (pv 2) (pv 1) (nomark _))))) (pss_one (ps_ret pe_bl)) pss_nil) (pss_one (ps_ret (pe_cmpR (op_eqD hr.units) (pe_lc (own := [("_law_word_here", 3), ("_law_number_here", 4)]) (g := (gTup K 2 (gCons (gName 3) (gCons (gName 4) gNil))))  rfl sc__law_is_sum.nd (pi_list (pv 2)) (blkOk_by (own := [("_law_word_here", 3), ("_law_number_here", 4)]) (N := N__law_is_sum) (sc := defScope s__law_is_sum) (by decide +kernel)) (fun _ _ _ _ _ => (pg_tup (by rfl) (pgs_cons (pg_name (i := 3) sc__law_is_sum.nd rfl (by first | exact Or.inl rfl | exact Or.inr rfl)) (pgs_cons (pg_name (i := 4) sc__law_is_sum.nd rfl (by first | exact Or.inl rfl | exact Or.inr rfl)) pgs_nil)))) (fun _ _ _ _ _ => (pts_one (pt_val (pe_callB (call_isi : CallR _ _ (rIsi K)) (by rfl) T.n_isinstance (by decide +kernel) (pa_cons (pv 4) (pa_cons (pe_bltn (v := .ty "bool") (u := .type "bool") (by rfl) T.n_bool (by decide +kernel) rfl) pa_nil)))))) (fun _ _ _ _ _ => pe_int)) (pe_lst pa_nil) (nomark _))))))), ?_⟩
    refine ⟨_, rfl, _, _, _, _, true, rfl, .own _, ty_sum T h1, kit_self _, true, rfl, iteF ?_⟩
    dsimp only [tNext, tSeq, tAsg, tC, gName]
    refine ⟨_, rfl, x, dx, _, rfl, h1, rfl, _, ts, rfl, hs, fun p vs H1 e1 np hp tv => ?_⟩
    refine ⟨_, rfl, _, _, .type "list", _, true, rfl, .ty _, ty_lst (.inl (.inl hp)), kit_ty (by decide +kernel), true, rfl, iteF ?_⟩
    refine ⟨_, rfl, _, rfl, dL ts, dL ts, .lst (.inl (.inl hp)) (dp_TV tv), .lst (ex_l e1 hS) (dp_TV (hT.ex e1)), sh_dL hl, sh_dL hl, ?_⟩
    have e : V.bl (!PyData.eqv (dL ts) (dL ts)) = V.bl false := Dx.ne_self (sh_dL hl)
    rw [e]
    refine ⟨false, rfl, iteF ?_⟩
    refine ⟨_, rfl, p, rfl, ⟨_, .inl (.inl hp)⟩, fun D nD => ?_⟩
    refine lc_list (xs := vs) (fun i H4 => Ex H1 H4 ∧ H4 D = some (.lst [])) ⟨ex_upd nD, upd_same⟩ (fun i H4 _ ⟨e4, _⟩ => .inl (.inl (e4 _ _ hp))) (fun i v H4 hv ⟨e4, hD⟩ => ?_) (fun H4 ⟨e4, hD⟩ => ?_)
    · obtain ⟨e, qq, he, rfl, hq⟩ := tv.at hv
      refine ⟨qq, _, rfl, ex_t e4 hq, rfl, _, _, rfl, _, _, rfl, rfl, rfl, ?_⟩
      refine ⟨_, rfl, _, _, .type "int", _, false, rfl, .ty _, .base (.int _), kit_ty (by decide +kernel), false, rfl, iteF ⟨e4, hD⟩⟩
    · refine ⟨Nat.zero_le _, fun n nn => ?_⟩
      refine ⟨.list [], .list [], .lst (.inl (.inl (ex_upd nn _ _ hD))) .nil, .lst (.inl (.inl upd_same)) .nil, rfl, rfl, ?_⟩
      exact q _ ((e1.trans e4).trans (ex_upd nn))
end
end K15
set_option Elab.async false
set_option linter.all false
set_option maxRecDepth 100000
set_option maxHeartbeats 4000000
namespace K15
open PySem PySem.Spec PyProof.Rows L2 Evl Bx
/-! ### terms put in order by the law -/
theorem new_false {ws : List Tm.Wd} {i : Nat} {w : Tm.Wd} (hw : ws[i]? = some w) (h : (decide (i = 0) || !decide (w = (ws[i - 1]?).getD [])) = false) : w ∈ ws.take i := by
  cases i with
  | zero => rw [decide_eq_true rfl] at h; cases h
  | succ j =>
    have jl := (List.getElem?_eq_some_iff.mp hw).1
    have hu := List.getElem?_eq_getElem (show j < ws.length by omega)
    rw [decide_eq_false (by omega : ¬ j + 1 = 0), Bool.false_or, Nat.add_sub_cancel, hu] at h
    have : w = ws[j] := by
      apply Decidable.byContradiction
      intro z
      rw [decide_eq_false (show ¬ w = (some ws[j]).getD [] from z)] at h
      cases h
    rw [take_one hu, this]
    exact List.mem_append_right _ (List.mem_singleton.mpr rfl)
theorem new_true {ws : List Tm.Wd} (p : ws.Pairwise fun a b => ¬ Tm.wlt b a) {i : Nat} {w : Tm.Wd} (hw : ws[i]? = some w) (h : (decide (i = 0) || !decide (w = (ws[i - 1]?).getD [])) = true) : ∀ v ∈ ws.take i, Tm.wlt v w := by
  cases i with
  | zero => intro v hv; simp at hv
  | succ j =>
    have jl := (List.getElem?_eq_some_iff.mp hw).1
    have hu := List.getElem?_eq_getElem (show j < ws.length by omega)
    rw [decide_eq_false (by omega : ¬ j + 1 = 0), Bool.false_or, Nat.add_sub_cancel, hu] at h
    refine Tm.sorted_new p hw hu fun z => ?_
    rw [decide_eq_true (show w = (some ws[j]).getD [] from z)] at h
    cases h
/-- a word with its number of letters, as data -/
def dW (w : Tm.Wd) : PyData := .tuple [.int (w.length : Nat), .str (mk w)]
theorem eqv_int (a b : Nat) : PyData.eqv (.int (a : Nat)) (.int (b : Nat)) = decide (a = b) := by
  have := eqvAll_ints [(a : Int)] [(b : Int)]
  simp [PyData.eqvAll] at this
  rw [this]
  exact decide_eq_decide.mpr (by omega)
theorem eqv_str (a b : List Nat) : PyData.eqv (.str (mk a)) (.str (mk b)) = decide (a = b) := by
  have := Dx.eqv_txs [a] [b]
  simp [PyData.eqvAll] at this
  exact this
theorem lt_dW (a b : Tm.Wd) : PySem.W.dataLt (dW a) (dW b) = decide (Tm.wlt a b) := by
  unfold dW
  rw [PySem.W.dataLt_pair rfl rfl, PySem.W.dataLt_int, PySem.W.dataLt_str]
  have e1 : PyData.eqv (.int (a.length : Nat)) (.int (b.length : Nat)) = decide (a.length = b.length) := eqv_int a.length b.length
  have e2 : PyData.eqv (.str (mk a)) (.str (mk b)) = decide (a = b) := eqv_str a b
  rw [e1, e2]
  show _ = decide (a.length < b.length ∨ (a.length = b.length ∧ a < b))
  by_cases h : a.length = b.length
  · rw [if_pos (decide_eq_true h)]
    by_cases q : a = b
    · rw [if_pos (decide_eq_true q)]
      subst q
      refine (decide_eq_false ?_).symm
      rintro (z | ⟨_, z⟩)
      · omega
      · exact List.lt_irrefl a z
    · rw [if_neg (by rw [decide_eq_false q]; decide)]
      refine decide_eq_decide.mpr ⟨fun z => .inr ⟨h, z⟩, fun z => z.elim (fun y => by omega) fun y => y.2⟩
  · rw [if_neg (by rw [decide_eq_false h]; decide)]
    refine decide_eq_decide.mpr ⟨fun z => .inl (by omega), fun z => z.elim (fun y => by omega) fun y => absurd y.1 h⟩
theorem eqv_dW (a b : Tm.Wd) : PyData.eqv (dW a) (dW b) = decide (a = b) := by
  show (PyData.eqv (.int (a.length : Nat)) (.int (b.length : Nat)) && (PyData.eqv (.str (mk a)) (.str (mk b)) && true)) = _
  rw [eqv_int, eqv_str, Bool.and_true]
  by_cases q : a = b
  · rw [decide_eq_true q, q, decide_eq_true rfl]
    rfl
  · rw [decide_eq_false q, Bool.and_false]
theorem sh_dW {w : Tm.Wd} (h : Low w) : SeqAt.shaped (dW w) = true := by
  have c0 : PyData.canLay0 (.str (mk w)) = true := str_ok h
  show ((PyData.canLay0 (.int (w.length : Nat)) && (PyData.canLay0 (.str (mk w)) && true)) && decide (max 0 (max 0 0) + 1 ≤ 64)) = true
  rw [c0]
  rfl
section
variable {P : Program} {w : World} {K : PySem.W.Frag} {mg : Str → Option Value} {base : Heap}
theorem tOr_by {t u : TT} {σ : L2.St} {H : Hp} {Q : Bool → Hp → Prop} (k : Bool) (h : ∀ Q' : Bool → Hp → Prop, Q' k H → tOr t u σ H Q') (q : Q k H) : tOr t u σ H Q := h Q q
abbrev wV : Tm.Wd → List V := fun w => [.int (w.length : Nat), tx w]
def sp__law_normal (K : PySem.W.Frag) : Sp := fun vs H Q _ => ∃ (a : Addr) (ts : Tm.Terms), vs = [.ref a] ∧ TL K H a ts ∧ Fine ts ∧ ts.length ≤ 90000 ∧ ∀ p us H', Ex H H' → H p = none → H' p = some (.lst us) → TV K H' us (Tm.nf ts) → Q (.ref p) H'
theorem ok__law_normal (T : Tx K mg) : FnOk P w K mg base CX0 1 T.a__law_normal T.fd__law_normal ["_law_terms_here"] (sp__law_normal K) := by
  refine T.F__law_normal.ok sc__law_normal (fun vs H Q E h => ?_) (fun cdv A outer s H vs Q E hr h => ?_)
  · obtain ⟨_, _, rfl, _⟩ := h
    rfl
  · obtain ⟨a, ts, rfl, ⟨us, hS, hT⟩, fi, fw, q⟩ := h
    refine ⟨_, (pss_cons (ps_asg (pe_tup (pa_cons (pe_callB (Rx.cr_sortD hr.units) (by rfl) T.n_sorted (by decide +kernel) (pa_cons (pe_lc (own := [("_law_word_here", 3), ("_law_number_here", 4)]) (g := (gTup K 2 (gCons (gName 3) (gCons (gName 4) gNil)))) (tt := tYes) rfl sc__law_normal.nd (pi_list (pv 0)) (blkOk_by (own := [("_law_word_here", 3), ("_law_number_here", 4)]) (N := N__law_normal) (sc := defScope s__law_normal) (by decide +kernel)) (fun _ _ _ _ _ => (pg_tup (by rfl) (pgs_cons (pg_name (i := 3) sc__law_normal.nd rfl (by first | exact Or.inl rfl | exact Or.inr rfl)) (pgs_cons (pg_name (i := 4) sc__law_normal.nd rfl (by first | exact Or.inl rfl | exact Or.inr rfl)) pgs_nil)))) (fun _ _ _ _ _ => pts_nil) (fun _ _ _ _ _ => (pe_tup (pa_cons (pe_callB call_len_str (by rfl) T.n_len (by decide +kernel) (pa_cons (pv 3) pa_nil)) (pa_cons (pv 3) pa_nil))))) pa_nil)) (pa_cons (pe_lst pa_nil) pa_nil))) (pg_tup (by rfl) (pgs_cons (pg_name (i := 1) sc__law_normal.nd rfl (by first | exact Or.inl rfl | exact Or.inr rfl)) (pgs_cons (pg_name (i := 2) sc__law_normal.nd rfl (by first | exact Or.inl rfl | exact Or.inr rfl)) pgs_nil)))) (pss_cons (ps_for PassesOwn.never rfl (pi_range1 (by rfl) T.n_range (pa_cons (pe_callB call_len_seq (by rfl) T.n_len (by decide +kernel) (pa_cons (pv 1) pa_nil)) pa_nil)) (pg_name (i := 5) sc__law_normal.nd rfl (by first | exact Or.inl rfl | exact Or.inr rfl)) (pss_one (ps_if (PW.pt (pw_or (pt_cmpR op_eq (pv 5) pe_int (nomark _)) (pw_or1 (pt_cmpR (op_neD hr.units) (pe_ix ix_list (pv 1) (pv 5) (fun _ _ => rfl)) (pe_ix ix_list (pv 1) (pe_op op_sub (pv 5) pe_int) (fun _ _ => rfl)) (nomark _))))) (pss_cons (ps_set (i := 4) sc__law_normal.nd rfl (by first | exact Or.inl rfl | exact Or.inr rfl) (pe_callB (cr_sum rfl) (by rfl) T.n_sum (by decide +kernel) (pa_cons (pe_lc (own := [("_law_word_here", 3), ("_law_factor", 6)]) (g := (gTup K 2 (gCons (gName 3) (gCons (gName 6) gNil))))  rfl sc__law_normal.nd (pi_list (pv 0)) (blkOk_by (own := [("_law_word_here", 3), ("_law_factor", 6)]) (N := N__law_normal) (sc := defScope s__law_normal) (by decide +kernel)) (fun _ _ _ _ _ => (pg_tup (by rfl) (pgs_cons (pg_name (i := 3) sc__law_normal.nd rfl (by first | exact Or.inl rfl | exact Or.inr rfl)) (pgs_cons (pg_name (i := 6) sc__law_normal.nd rfl (by first | exact Or.inl rfl | exact Or.inr rfl)) pgs_nil)))) (fun _ _ _ _ _ => (pts_one (pt_cmpR op_eq (pv 3) (pe_ix (ix_tup : IxR _ (rIxT K)) (pe_ix (ix_list : IxR _ (rIxL K)) (pv 1) (pv 5) (fun _ _ => rfl)) pe_int (fun _ _ => rfl)) (nomark _)))) (fun _ _ _ _ _ => (pv 6))) pa_nil))) (pss_one (ps_if (pt_cmpR op_ne (pv 4) pe_int (nomark _)) (pss_one (ps_expr (pe_bm PySem.F.plainAttrs_list PySem.F.slot_list_append PySem.F.type_list_append mt_append (pv 2) (pa_cons (pe_tup (pa_cons (pe_ix ix_tup (pe_ix ix_list (pv 1) (pv 5) (fun _ _ => rfl)) pe_int (fun _ _ => rfl)) (pa_cons (pv 4) pa_nil))) pa_nil)))) pss_nil))) pss_nil))) (pss_one (ps_ret (pv 2))))), ?_⟩
    have ul := hT.len
    refine ⟨_, rfl, a, rfl, ⟨_, hS⟩, fun D nD => ?_⟩
    refine lc_list (xs := us) (fun i H4 => ∃ qs : List (Addr × Tm.Wd), Ex H H4 ∧ H4 D = some (.lst (qs.map fun b => V.ref b.1)) ∧ qs.length = i ∧ (∀ b ∈ qs, SqT K H4 b.1 (wV b.2)) ∧ qs.map (·.2) = (ts.take i).map (·.1)) ⟨[], ex_upd nD, upd_same, rfl, (fun b hb => by cases hb), rfl⟩ (fun i H4 _ ⟨_, e4, _⟩ => ex_l e4 hS) (fun i v H4 hv ⟨qs, e4, hD, ql, hq, qw⟩ => ?_) (fun H4 ⟨qs, e4, hD, ql, hq, qw⟩ => ?_)
    · obtain ⟨e, qq, he, rfl, hqq⟩ := hT.at hv
      have il : i < ts.length := (List.getElem?_eq_some_iff.mp he).1
      have em : e ∈ ts := List.mem_of_getElem? he
      have el := fi.len e em
      refine ⟨qq, _, rfl, ex_t e4 hqq, rfl, _, _, rfl, _, _, rfl, rfl, rfl, ?_⟩
      dsimp only [tYes]
      refine iteT ⟨_, rfl, mk e.1, rfl, by rw [mk_len]; exact sz_of (by omega), _, rfl, sz_of (by show 2 ≤ 100000; omega), fun t nt => ?_⟩
      have Dt : D ≠ t := ex_ne hD nt
      refine ⟨_, by rw [upd_ne Dt]; exact hD, by rw [List.length_map]; exact sz_lt (by omega), qs ++ [(t, e.1)], (e4.trans (ex_upd nt)).mut nD, by rw [upd_same, List.map_append]; rfl, by rw [List.length_append, ql]; rfl, fun b hb => ?_, ?_⟩
      · rcases List.mem_append.mp hb with z | z
        · exact sqT_upL (by rw [upd_ne Dt]; exact hD) (ex_t (ex_upd nt) (hq b z))
        · rw [List.mem_singleton.mp z]
          refine .inl (.inl ?_)
          rw [upd_ne Dt.symm, upd_same]
          show some (HO.tup [V.int ((mk e.1).length : Nat), tx e.1]) = some (HO.tup [V.int (e.1.length : Nat), tx e.1])
          rw [mk_len]
      · rw [take_one he, List.map_append, List.map_append, qw]
        rfl
    · rw [ul, List.take_length] at qw
      have dep : ∀ w, (dW w).depth ≤ 8 := fun w => by
        show max 0 (max 0 0) + 1 ≤ 8
        omega
      refine ⟨D, Addr × Tm.Wd, qs, fun b => V.ref b.1, fun b => dW b.2, rfl, .inl (.inl hD), fun b hb => .tup (hq b hb) (.cons (.int _) (.cons (.str _) .nil)), PySem.W.AllAlike.of fun _ _ => rfl, .inl fun d hd => ?_, fun b _ => dep b.2, fun p1 np1 => ?_⟩
      · obtain ⟨b, _, rfl⟩ := List.mem_map.mp hd
        exact ⟨_, _, rfl⟩
      have perm := List.mergeSort_perm qs (PySem.W.dataLe false fun b => dW b.2)
      have sorted : (qs.mergeSort (PySem.W.dataLe false fun b => dW b.2)).Pairwise fun a b => ¬ Tm.wlt b.2 a.2 := by
        have le : ∀ a b : Addr × Tm.Wd, (PySem.W.dataLe false fun b : Addr × Tm.Wd => dW b.2) a b = !decide (Tm.wlt b.2 a.2) := fun a b => by
          rw [PySem.W.dataLe_eq]
          show (!PySem.W.dataLt (dW b.2) (dW a.2)) = _
          rw [lt_dW]
        refine (List.pairwise_mergeSort (fun a b c h h' => ?_) (fun a b => ?_) qs).imp fun {a b} h => ?_
        · rw [le] at h h' ⊢
          have h1 : ¬ Tm.wlt b.2 a.2 := fun z => by rw [decide_eq_true z] at h; cases h
          have h2 : ¬ Tm.wlt c.2 b.2 := fun z => by rw [decide_eq_true z] at h'; cases h'
          have : ¬ Tm.wlt c.2 a.2 := fun z => by
            rcases Tm.wlt_tri b.2 a.2 with y | y | y
            · exact h1 y
            · rw [y] at h2; exact h2 z
            · exact h2 (Tm.wlt_trans z y)
          rw [decide_eq_false this]
          rfl
        · rw [le, le]
          by_cases z : Tm.wlt b.2 a.2
          · have : ¬ Tm.wlt a.2 b.2 := fun y => Tm.wlt_irrefl _ (Tm.wlt_trans z y)
            rw [decide_eq_false this, Bool.not_false, Bool.or_true]
          · rw [decide_eq_false z]
            rfl
        · rw [le] at h
          intro z
          rw [decide_eq_true z] at h
          cases h
      generalize hsb : qs.mergeSort (PySem.W.dataLe false fun b => dW b.2) = sb at perm sorted
      have sl : sb.length = ts.length := by rw [perm.length_eq, ql, ul]
      have e5 := ex_upd (o := .lst (sb.map fun b => V.ref b.1)) np1
      have hq1 : ∀ b ∈ sb, SqT K (upd H4 p1 (.lst (sb.map fun b => V.ref b.1))) b.1 (wV b.2) := fun b hb => ex_t e5 (hq b (perm.mem_iff.mp hb))
      have hp1 : upd H4 p1 (.lst (sb.map fun b => V.ref b.1)) p1 = some (.lst (sb.map fun b => V.ref b.1)) := upd_same
      have e04 := e4.trans e5
      have np10 : H p1 = none := exn e4 np1
      have wl : ∀ b ∈ sb, b.2 ∈ ts.map (·.1) := fun b hb => by
        rw [← qw]
        exact List.mem_map_of_mem (f := (·.2)) (perm.mem_iff.mp hb)
      have low : ∀ b ∈ sb, Low b.2 := fun b hb => by
        obtain ⟨e, he, q⟩ := List.mem_map.mp (wl b hb)
        rw [← q]
        exact fi.low e he
      have wsorted : (sb.map (·.2)).Pairwise fun a b => ¬ Tm.wlt b a := List.pairwise_map.mpr sorted
      have cover : ∀ e ∈ ts, e.1 ∈ sb.map (·.2) := fun e he => by
        have : e.1 ∈ qs.map (·.2) := by rw [qw]; exact List.mem_map_of_mem (f := (·.1)) he
        obtain ⟨b, hb, q⟩ := List.mem_map.mp this
        exact List.mem_map.mpr ⟨b, perm.mem_iff.mpr hb, q⟩
      generalize upd H4 p1 (.lst (sb.map fun b => V.ref b.1)) = H5 at hq1 hp1 e04
      refine ⟨Nat.zero_le _, fun pf npf => ⟨sz_of (by show 2 ≤ 100000; omega), fun t nt => ?_⟩⟩
      have npf0 : H pf = none := exn e04 npf
      have pft : pf ≠ t := ex_ne upd_same nt
      have e6 : Ex H5 (upd (upd H5 pf (.lst [])) t (.tup [V.ref p1, V.ref pf])) := (ex_upd npf).trans (ex_upd nt)
      refine ⟨t, _, rfl, .inl (.inl upd_same), rfl, _, _, rfl, _, _, rfl, rfl, ?_⟩
      refine ⟨_, rfl, p1, _, rfl, .inl (.inl (.inl (e6 _ _ hp1))), ((sb.length : Nat) : Int), by rw [List.length_map], by omega, by omega, ?_⟩
      rw [Int.toNat_natCast]
      refine for_range (lo := 0) (n := sb.length) (fun i σ H6 => ∃ y3 y4 y5 y6 F acc, σ = [some (.ref a), some (.ref p1), some (.ref pf), y3, y4, y5, y6] ∧ Ex H5 H6 ∧ H6 pf = some (.lst acc) ∧ TV K H6 acc F ∧ Tm.Seen ts (sb.map (·.2)) i F) ⟨_, _, _, _, [], [], rfl, e6, by rw [upd_ne pft, upd_same], trivial, Tm.Seen.zero _ _⟩ (fun i σ H6 hi ⟨y3, y4, y5, y6, F, acc, hσ, x6, hpf, hF, sn⟩ => ?_) (fun σ H6 ⟨y3, y4, y5, y6, F, acc, hσ, x6, hpf, hF, sn⟩ => ?_)
      · subst hσ
        have e0 : (0 : Int) + ((i : Nat) : Int) = ((i : Nat) : Int) := Int.zero_add _
        rw [e0]
        obtain ⟨b, hb⟩ : ∃ b, sb[i]? = some b := ⟨sb[i], List.getElem?_eq_getElem hi⟩
        have bm : b ∈ sb := List.mem_of_getElem? hb
        have hw : (sb.map (·.2))[i]? = some b.2 := by rw [List.getElem?_map, hb]; rfl
        have g1 : atI (sb.map fun b => V.ref b.1) ((i : Nat) : Int) = some (.ref b.1) := atI_nat (by rw [List.getElem?_map, hb]; rfl)
        have h61 := x6 _ _ hp1
        have sq := ex_t x6 (hq1 b bm)
        refine tOr_by (decide (i = 0) || !decide (b.2 = ((sb.map (·.2))[i - 1]?).getD [])) (fun Q' q' => ?_) ?_
        · cases i with
          | zero => exact ⟨_, rfl, rfl, true, Rx.eq_same rfl, iteT q'⟩
          | succ j =>
            have ne : decide (V.int ((j + 1 : Nat) : Int) = V.int 0) = false := decide_eq_false fun z => by
              have := V.int.inj z
              omega
            refine ⟨_, rfl, rfl, false, by rw [ne], iteF ?_⟩
            obtain ⟨c, hc⟩ : ∃ c, sb[j]? = some c := ⟨sb[j], List.getElem?_eq_getElem (by omega)⟩
            have cm : c ∈ sb := List.mem_of_getElem? hc
            have hu : (sb.map (·.2))[j]? = some c.2 := by rw [List.getElem?_map, hc]; rfl
            have g2 : atI (sb.map fun b => V.ref b.1) (((j + 1 : Nat) : Int) - 1) = some (.ref c.1) := by
              have e : ((j + 1 : Nat) : Int) - 1 = ((j : Nat) : Int) := by omega
              rw [e]
              exact atI_nat (by rw [List.getElem?_map, hc]; rfl)
            have sqc := ex_t x6 (hq1 c cm)
            refine ⟨_, rfl, _, rfl, p1, _, _, _, rfl, rfl, .inl (.inl h61), g1, _, rfl, _, rfl, _, 1, rfl, rfl, p1, _, _, _, rfl, rfl, .inl (.inl h61), g2, dW b.2, dW c.2, .tup sq (.cons (.int _) (.cons (.str _) .nil)), .tup sqc (.cons (.int _) (.cons (.str _) .nil)), sh_dW (low b bm), sh_dW (low c cm), _, rfl, ?_⟩
            rw [decide_eq_false (by omega : ¬ j + 1 = 0), Bool.false_or, Nat.add_sub_cancel, hu] at q'
            rw [eqv_dW]
            exact q'
        · cases hnew : (decide (i = 0) || !decide (b.2 = ((sb.map (·.2))[i - 1]?).getD [])) with
          | false => exact iteF ⟨_, _, _, _, F, acc, rfl, x6, hpf, hF, sn.same hw (.inl (new_false hw hnew))⟩
          | true =>
            have lt := new_true wsorted hw hnew
            refine iteT ⟨_, rfl, a, rfl, ⟨_, ex_l (e04.trans x6) hS⟩, fun D2 nD2 => ?_⟩
            refine lc_list (xs := us) (fun m H7 => Ex H6 H7 ∧ H7 D2 = some (.lst ((((ts.take m).filter fun e => decide (e.1 = b.2)).map (·.2)).map V.int))) ⟨ex_upd nD2, upd_same⟩ (fun m H7 _ ⟨e7, _⟩ => ex_l ((e04.trans x6).trans e7) hS) (fun m v H7 hv ⟨e7, hD2⟩ => ?_) (fun H7 ⟨e7, hD2⟩ => ?_)
            · obtain ⟨e, qq, he, rfl, hqq⟩ := hT.at hv
              have ml : m < ts.length := (List.getElem?_eq_some_iff.mp he).1
              have tk : (ts.take (m + 1)).filter (fun e => decide (e.1 = b.2)) = (ts.take m).filter (fun e => decide (e.1 = b.2)) ++ [e].filter (fun e => decide (e.1 = b.2)) := by rw [take_one he, List.filter_append]
              refine ⟨qq, _, rfl, ex_t ((e04.trans x6).trans e7) hqq, rfl, _, _, rfl, _, _, rfl, rfl, rfl, ?_⟩
              refine ⟨_, rfl, _, rfl, _, rfl, p1, _, _, _, rfl, rfl, .inl (.inl (e7 _ _ h61)), g1, b.1, _, 1, _, rfl, rfl, ex_t e7 sq, rfl, rfl, _, rfl, ?_⟩
              rw [tk]
              by_cases z : e.1 = b.2
              · rw [decide_eq_true (by rw [z] : tx e.1 = tx b.2)]
                refine iteT ⟨_, rfl, _, hD2, ?_, e7.mut nD2, ?_⟩
                · rw [List.length_map, List.length_map]
                  refine sz_lt (Nat.lt_of_le_of_lt (List.length_filter_le _ _) ?_)
                  rw [List.length_take]
                  omega
                · rw [upd_same, List.filter_cons_of_pos (by rw [decide_eq_true z]), List.map_append, List.map_append]
                  rfl
              · rw [decide_eq_false (fun q => z (tx_inj.mp q))]
                refine iteF ⟨e7, ?_⟩
                rw [List.filter_cons_of_neg (by rw [decide_eq_false z]; decide)]
                rw [List.filter_nil, List.append_nil]
                exact hD2
            · rw [ul, List.take_length] at hD2
              refine ⟨D2, _, rfl, .inl (.inl hD2), ?_⟩
              rw [Tm.tot_filter]
              have x7 := x6.trans e7
              have hpf7 := e7 _ _ hpf
              have hF7 := hF.ex e7
              by_cases z : Tm.tot ts b.2 = 0
              · refine ⟨_, rfl, rfl, false, Rx.ne_same (by rw [z]), iteF ⟨_, _, _, _, F, acc, rfl, x7, hpf7, hF7, sn.same hw (.inr z)⟩⟩
              · refine ⟨_, rfl, rfl, true, by rw [decide_eq_false fun q => z (V.int.inj q)]; rfl, iteT ?_⟩
                refine ⟨_, rfl, .inl ⟨rfl, _, .inl (.inl hpf7)⟩, _, rfl, _, rfl, p1, _, _, _, rfl, rfl, .inl (.inl (e7 _ _ h61)), g1, b.1, _, 1, _, rfl, rfl, ex_t e7 sq, rfl, _, rfl, sz_of (by show 2 ≤ 100000; omega), fun t2 nt2 => ?_⟩
                have pt : pf ≠ t2 := ex_ne hpf7 nt2
                have al := hF7.len
                have fl := sn.few
                refine ⟨pf, acc, _, rfl, rfl, by rw [upd_ne pt]; exact hpf7, sz_lt (by omega), _, _, _, _, _, _, rfl, (x7.trans (ex_upd nt2)).mut npf, upd_same, ?_, sn.more hw lt z⟩
                exact ((hF7.ex (ex_upd nt2)).upL (by rw [upd_ne pt]; exact hpf7)).snoc (.inl (.inl (by rw [upd_ne pt.symm, upd_same])))
      · subst hσ
        rw [show sb.length = (sb.map (·.2)).length from (List.length_map _).symm] at sn
        have := sn.done cover
        subst this
        exact ⟨_, rfl, q pf acc H6 (e04.trans x6) npf0 hpf hF⟩
end
end K15
set_option Elab.async false
set_option linter.all false
set_option maxRecDepth 100000
set_option maxHeartbeats 4000000
namespace Bx
open PySem PySem.Spec PyProof.Rows L2 Evl
theorem fold_rep (a : List Nat) : ∀ (k : Nat) (acc : Array Nat), (List.replicate k a.toArray).foldl (· ++ ·) acc = (acc.toList ++ (List.replicate k a).flatten).toArray
  | 0, acc => by simp
  | k + 1, acc => by
    rw [List.replicate_succ, List.foldl_cons, fold_rep a k, List.replicate_succ, List.flatten_cons]
    simp
theorem mul_mk (l : List Nat) (k : Nat) : Txt.mul (mk l) (k : Nat) = mk (List.replicate k l).flatten := by
  unfold Txt.mul
  by_cases h : (k : Int) < 1
  · have e : k = 0 := by omega
    subst e
    rfl
  · rw [if_neg h]
    split
    · rename_i c
      rw [Bool.or_eq_true, beq_iff_eq, beq_iff_eq] at c
      rcases c with c | c
      · have e : k = 1 := by omega
        subst e
        simp
      · have e : l = [] := List.eq_nil_of_length_eq_zero (by rw [mk_len] at c; exact c)
        subst e
        have : ∀ k, (List.replicate k ([] : List Nat)).flatten = [] := by
          intro k
          induction k with
          | zero => rfl
          | succ k ih => rw [List.replicate_succ, List.flatten_cons, ih]; rfl
        rw [this]
    · rw [Int.toNat_natCast, fold_rep]
      rfl
/-- x * k of a text -/
def rRepS : R2 := fun x y H Q => ∃ (l : List Nat) (k : Nat), x = tx l ∧ y = .int (k : Nat) ∧ l.length * k ≤ 100000 ∧ k ≤ 100000 ∧ Q (tx (List.replicate k l).flatten) H
theorem op_repS {X : Cx} : OpR X (binaryOp .Mult) rRepS := by
  intro pins s σ H x y v u Q I rx ry h
  obtain ⟨l, k, rfl, rfl, h1, h2, q⟩ := h
  obtain ⟨t, rfl⟩ := rx
  obtain ⟨t', rfl⟩ := ry
  have ok : MulOk (mk l) (k : Nat) := by
    refine ⟨?_, fun a b => ?_, fun a b => ?_⟩
    · rw [decide_eq_false (by omega), decide_eq_false (by omega)]
      rfl
    · rw [mk_len]
      have hp : (0 : Int) < (k : Nat) := by omega
      have q1 : ((l.length : Int)) * (k : Nat) ≤ 2 ^ 63 - 1 := by
        have : ((l.length * k : Nat) : Int) ≤ 100000 := by omega
        rw [Int.natCast_mul] at this
        omega
      have := Int.le_ediv_of_mul_le hp q1
      omega
    · rw [mk_len, Int.toNat_natCast]
      show decide (_ > sizeLine) = false
      refine decide_eq_false ?_
      have : sizeLine ≥ 100000 := by decide
      omega
  refine SB.mul ok fun t2 k2 => ⟨.str (Txt.mul (mk l) (k : Nat)), H, I.tok _, ⟨t2, rfl⟩, ?_⟩
  rw [mul_mk]
  exact q
/-- the last places of a text, whether or not it has any -/
theorem cut_last (u : List Nat) : cutS (mk u) (some ((u.length : Int) - 1)) none = mk (u.drop (u.length - 1)) := by
  by_cases h : u = []
  · subst h
    rfl
  · have hl := List.length_pos_iff.mpr h
    have e : (u.length : Int) - 1 = ((u.length - 1 : Nat) : Int) := by omega
    rw [e, cut_from]
theorem cut_init (u : List Nat) : cutS (mk u) none (some ((u.length : Int) - 1)) = mk (u.take (u.length - 1)) := by
  by_cases h : u = []
  · subst h
    rfl
  · have hl := List.length_pos_iff.mpr h
    have e : (u.length : Int) - 1 = ((u.length - 1 : Nat) : Int) := by omega
    rw [e, cut_to]
theorem rep_two (c : Nat) : (List.replicate 2 [c]).flatten = [c, c] := rfl
end Bx
namespace Bx
open PySem PySem.Spec PyProof.Rows L2 Evl
/-- all but one object as before, and that one still there -/
def Xh (g : Addr) (H H' : Hp) : Prop := Xg g H H' ∧ H' g ≠ none
theorem Xh.ex {g : Addr} {H H1 H2 : Hp} (a : Xh g H H1) (b : Ex H1 H2) : Xh g H H2 := ⟨a.1.ex b, fun z => by
  cases q : H1 g with
  | none => exact a.2 q
  | some o =>
    rw [b g o q] at z
    cases z⟩
theorem Xh.mut {g : Addr} {H H' : Hp} {p : Addr} {o : HO} (e : Xh g H H') (h : H p = none) : Xh g H (L2.upd H' p o) := ⟨e.1.mut h, fun z => by
  by_cases q : g = p
  · rw [q, upd_same] at z
    cases z
  · rw [upd_ne q] at z
    exact e.2 z⟩
theorem Xh.fresh {g : Addr} {H H' : Hp} (e : Xh g H H') {p : Addr} (h : H' p = none) : H p = none := e.1.fresh e.2 h
theorem Xg.gen {g : Addr} {H H' : Hp} {n : Nat} (e : Xg g H H') (h : Gen H' g n) : Xh g H H' := ⟨e, h.there⟩
end Bx
set_option Elab.async false
set_option linter.all false
set_option maxRecDepth 100000
set_option maxHeartbeats 4000000
/-! Rx6: x < y of data -/
namespace Rx
open PySem PySem.Spec PyProof.Rows L2
section
variable {X : Cx}
def rLtD (K : PySem.W.Frag) : R2 := fun x y H Q => ∃ d e, Dp K H x d ∧ Dp K H y e ∧ PySem.W.alike d e = true ∧ d ≠ .none ∧ d.depth ≤ 8 ∧ Q (.bl (PySem.W.dataLt d e)) H
theorem op_ltD (hu : X.A.units + 64 < cLine) : OpR X (compareOp .Lt) (rLtD X.K) := by
  intro pins s σ H x y v u Q I rx ry h
  obtain ⟨d, e, hd, he, ha, hn, h8, q⟩ := h
  obtain ⟨as, r1⟩ := Dp.reads I d x v hd rx
  obtain ⟨bs, r2⟩ := Dp.reads I e y u he ry
  exact PySem.W.lt_data r1 r2 ha hn (by
    have := Nat.min_le_left d.depth e.depth
    omega) ⟨.bl _, H, I, rfl, q⟩
/-- a text ahead of another one: by the number of letters, then as Python has it -/
def ahead (a b : Str) : Bool := if (a.length : Int) = (b.length : Int) then decide (a.cps.toList < b.cps.toList) else decide ((a.length : Int) < (b.length : Int))
theorem lt_len_text (a b : Str) : PySem.W.dataLt (.tuple [.int (a.length : Int), .str a]) (.tuple [.int (b.length : Int), .str b]) = ahead a b := by
  rw [PySem.W.dataLt_pair (by simp [PySem.W.alike]) (by simp [PySem.W.alike]), PySem.W.dataLt_int, PySem.W.dataLt_str]
  unfold ahead
  simp only [PyData.eqv, beq_iff_eq]
  by_cases h : (a.length : Int) = (b.length : Int)
  · rw [if_pos h, if_pos h]
    by_cases z : a = b
    · subst z
      rw [if_pos rfl]
      exact (decide_eq_false (List.lt_irrefl _)).symm
    · rw [if_neg z]
  · rw [if_neg h, if_neg h]
end
end Rx
set_option Elab.async false
set_option linter.all false
set_option maxRecDepth 100000
set_option maxHeartbeats 4000000
/-! Tm9: the longest words of terms -/
namespace Tm
open Mx
def deg (ts : Terms) : Int := match ts.getLast? with
  | none => -1
  | some e => (e.1.length : Nat)
def top (m : Int) (ts : Terms) : Terms := ts.filter fun e => decide (((e.1.length : Nat) : Int) = m)
theorem deg_nil : deg [] = -1 := rfl
theorem deg_last {ts : Terms} (n : ts ≠ []) : deg ts = ((ts.getLast n).1.length : Nat) := by
  unfold deg
  rw [List.getLast?_eq_getLast n]
theorem deg_le {ts : Terms} (h : Nf ts) : ∀ e ∈ ts, ((e.1.length : Nat) : Int) ≤ deg ts := by
  intro e he
  have n : ts ≠ [] := fun z => by rw [z] at he; cases he
  rw [deg_last n]
  have hs : ts = ts.dropLast ++ [ts.getLast n] := (List.dropLast_concat_getLast n).symm
  have pw := h.1
  rw [hs, List.map_append] at pw
  have hp := List.pairwise_append.mp pw
  have he2 : e ∈ ts.dropLast ++ [ts.getLast n] := by rw [← hs]; exact he
  rcases List.mem_append.mp he2 with z | z
  · have := hp.2.2 e.1 (List.mem_map_of_mem (f := (·.1)) z) (ts.getLast n).1 (by simp)
    rcases this with y | ⟨y, _⟩
    · omega
    · omega
  · rw [List.mem_singleton.mp z]
    exact Int.le_refl _
theorem deg_of {ts : Terms} (h : Nf ts) {m : Int} (hm : m = -1 ∨ ∃ e ∈ ts, m = ((e.1.length : Nat) : Int)) (all : ∀ e ∈ ts, ((e.1.length : Nat) : Int) ≤ m) : m = deg ts := by
  by_cases n : ts = []
  · subst n
    rcases hm with z | ⟨e, he, _⟩
    · exact z
    · cases he
  · have h1 := all _ (List.getLast_mem n)
    rw [← deg_last n] at h1
    rcases hm with z | ⟨e, he, z⟩
    · rw [deg_last n] at h1
      omega
    · have := deg_le h e he
      omega
theorem top_tot (m : Int) (ts : Terms) (w : Wd) : tot (top m ts) w = if ((w.length : Nat) : Int) = m then tot ts w else 0 := by
  unfold top
  induction ts with
  | nil => split <;> rfl
  | cons e r ih =>
    by_cases h : ((e.1.length : Nat) : Int) = m
    · rw [List.filter_cons_of_pos (by rw [decide_eq_true h])]
      show (if e.1 = w then e.2 else 0) + tot (r.filter _) w = if ((w.length : Nat) : Int) = m then (if e.1 = w then e.2 else 0) + tot r w else 0
      rw [ih]
      by_cases q : e.1 = w
      · subst q
        rw [if_pos h, if_pos h]
      · rw [if_neg q]
        split <;> omega
    · rw [List.filter_cons_of_neg (by rw [decide_eq_false h]; decide), ih]
      show _ = if ((w.length : Nat) : Int) = m then (if e.1 = w then e.2 else 0) + tot r w else 0
      by_cases q : e.1 = w
      · subst q
        rw [if_neg h, if_neg h]
      · rw [if_neg q]
        split <;> omega
theorem top_nf {ts : Terms} (h : Nf ts) (m : Int) : Nf (top m ts) := by
  unfold top
  exact ⟨h.1.sublist (List.filter_sublist.map _), fun e he => h.2 e ((List.mem_filter.mp he).1)⟩
theorem fin_long {g : Ser} (g0 : g [] = 1) {w v : Wd} (h : v.length ≤ w.length) : fin g w v = if v = w then 1 else 0 := by
  unfold fin
  have e : v.length - w.length = 0 := by omega
  rw [e, List.drop_zero, List.take_zero]
  by_cases q : v = w
  · rw [if_pos q, if_pos q]
    exact g0
  · rw [if_neg q, if_neg q]
theorem shift_long {g : Ser} (g0 : g [] = 1) {ts : Terms} (h : Nf ts) {w : Wd} (hw : deg ts ≤ ((w.length : Nat) : Int)) : tot (nf (shift g ts)) w = tot ts w := by
  rw [nf_tot, shift_tot, tot_sum]
  congr 1
  refine List.map_congr_left fun e he => ?_
  have := deg_le h e he
  rw [fin_long g0 (by omega)]
theorem shift_words {g : Ser} {ts : Terms} (h : Nf ts) : ∀ e ∈ nf (shift g ts), ((e.1.length : Nat) : Int) ≤ deg ts := by
  intro e he
  obtain ⟨x, hx, q⟩ := nf_words _ e he
  obtain ⟨y, hy, hc⟩ := List.mem_flatMap.mp hx
  obtain ⟨k, _, rfl⟩ := List.mem_map.mp hc
  have := deg_le h y hy
  rw [← q]
  show (((y.1.drop k).length : Nat) : Int) ≤ _
  rw [List.length_drop]
  omega
theorem shift_deg {g : Ser} (g0 : g [] = 1) {ts : Terms} (h : Nf ts) : deg (nf (shift g ts)) = deg ts := by
  refine (deg_of (nf_nf _) ?_ fun e he => shift_words h e he).symm
  by_cases n : ts = []
  · subst n
    exact .inl rfl
  · right
    have hl := List.getLast_mem n
    have nz : tot (nf (shift g ts)) (ts.getLast n).1 ≠ 0 := by
      rw [shift_long g0 h (by rw [deg_last n]; exact Int.le_refl _), h.tot_mem _ hl]
      exact h.2 _ hl
    obtain ⟨e, he, q⟩ := Nf.mem_tot nz
    exact ⟨e, he, by rw [deg_last n, q]⟩
theorem shift_top {g : Ser} (g0 : g [] = 1) {ts : Terms} (h : Nf ts) : top (deg ts) (nf (shift g ts)) = top (deg ts) ts := by
  refine Nf.ext (top_nf (nf_nf _) _) (top_nf h _) fun w => ?_
  rw [top_tot, top_tot]
  split
  · rename_i e
    exact shift_long g0 h (by omega)
  · rfl
theorem ser_nil : ∀ (n : Nat) (s : List (Nat × Bool)), s.length = n → ser s [] = 1
  | 0, s, h => by
    rw [List.length_eq_zero_iff.mp h]
    rfl
  | n + 1, s, h => by
    have ns : s ≠ [] := fun z => by rw [z] at h; cases h
    rw [← List.dropLast_concat_getLast ns, ser_snoc]
    have ih := ser_nil n s.dropLast (by rw [List.length_dropLast]; omega)
    unfold put
    split
    · exact ih
    · exact ih
end Tm
set_option Elab.async false
set_option linter.all false
set_option maxRecDepth 100000
set_option maxHeartbeats 8000000
namespace K15
open PySem PySem.Spec PyProof.Rows L2 Evl Bx
open Rx
section
variable {P : Program} {w : World} {K : PySem.W.Frag} {mg : Str → Option Value} {base : Heap}
theorem TV.rev : ∀ {H : Hp} {vs : List V} {ts : Tm.Terms}, TV K H vs ts → TV K H vs.reverse ts.reverse
  | _, [], [], _ => trivial
  | _, v :: vs, e :: ts, ⟨a, r⟩ => by
    rw [List.reverse_cons, List.reverse_cons]
    exact r.rev.app ⟨a, trivial⟩
  | _, [], _ :: _, h => h.elim
  | _, _ :: _, [], h => h.elim
theorem sqT_xl {H H' : Hp} {g q : Addr} {ys xs : List V} (hg : H g = some (.lst ys)) (e : Xg g H H') (h : SqT K H q xs) : SqT K H' q xs := by
  rcases h with (h | ⟨o, h⟩) | h
  · exact .inl (.inl (e q _ (fun z => by rw [z, hg] at h; cases h) h))
  · exact .inl (.inr ⟨o, e q _ (fun z => by rw [z, hg] at h; cases h) h⟩)
  · exact .inr h
theorem sqT_gen {H H' : Hp} {g q : Addr} {n : Nat} {xs : List V} (hg : Gen H g n) (e : Xg g H H') (h : SqT K H q xs) : SqT K H' q xs := let ⟨_, _, _, h1, _⟩ := hg; sqT_xl h1 e h
theorem tv_not_gen {H : Hp} {b s c : Int} {ts : Tm.Terms} (h : TV K H [.int b, .int s, .int c] ts) : False := by
  cases ts with
  | nil => exact h
  | cons e r =>
    obtain ⟨⟨q, z, _⟩, _⟩ := h
    cases z
theorem SumAt.xg {T : Tx K mg} {H H' : Hp} {g : Addr} {n : Nat} {v : V} {ts : Tm.Terms} (h : SumAt T H v ts) (gn : Gen H g n) (x : Xg g H H') : SumAt T H' v ts := by
  obtain ⟨s, dx, l, us, rfl, h1, h2, h3⟩ := h
  have gn' := gn
  obtain ⟨b, s', c, hg, _⟩ := gn'
  refine ⟨s, dx, l, us, rfl, x s _ (fun z => by rw [z, hg] at h1; cases h1) h1, x l _ (fun z => ?_) h2, h3.imp fun q xs h => sqT_gen gn x h⟩
  rw [z, hg] at h2
  cases h2
  exact tv_not_gen h3
theorem TL.xg {H H' : Hp} {g a : Addr} {n : Nat} {ts : Tm.Terms} (h : TL K H a ts) (gn : Gen H g n) (x : Xg g H H') : TL K H' a ts := by
  obtain ⟨us, h1, h2⟩ := h
  have gn' := gn
  obtain ⟨b, s', c, hg, _⟩ := gn'
  refine ⟨us, ?_, h2.imp fun q xs h => sqT_gen gn x h⟩
  rcases h1 with (h1 | ⟨o, h1⟩) | h1
  · refine .inl (.inl (x a _ (fun z => ?_) h1))
    rw [z, hg] at h1
    cases h1
    exact tv_not_gen h2
  · exact .inl (.inr ⟨o, x a _ (fun z => by rw [z, hg] at h1; cases h1) h1⟩)
  · exact .inr h1
/-- drawn terms: at most c of them, of at most m letters of L, with numbers of at most B -/
structure Dr (L : List Nat) (c m B : Nat) (ts : Tm.Terms) : Prop where
  over : ∀ e ∈ ts, ∀ a ∈ e.1, a ∈ L
  len : ∀ e ∈ ts, e.1.length ≤ m
  few : ts.length ≤ c
  num : ∀ e ∈ ts, e.2.natAbs ≤ B
theorem Dr.nil {L : List Nat} {c m B : Nat} : Dr L c m B [] := ⟨fun e he => (by cases he), fun e he => (by cases he), Nat.zero_le _, fun e he => (by cases he)⟩
theorem Dr.snoc {L : List Nat} {c m B : Nat} {ts : Tm.Terms} {y : List Nat} {r : Int} (h : Dr L c m B ts) (h1 : ∀ a ∈ y, a ∈ L) (h2 : y.length ≤ m) (h3 : r.natAbs ≤ B) : Dr L (c + 1) m B (ts ++ [(y, r)]) := by
  have at_ : ∀ e ∈ ts ++ [(y, r)], e ∈ ts ∨ e = (y, r) := fun e he => (List.mem_append.mp he).imp id List.mem_singleton.mp
  refine ⟨fun e he => ?_, fun e he => ?_, ?_, fun e he => ?_⟩
  · rcases at_ e he with z | z
    · exact h.over e z
    · rw [z]; exact h1
  · rcases at_ e he with z | z
    · exact h.len e z
    · rw [z]; exact h2
  · rw [List.length_append]
    have := h.few
    show _ + 1 ≤ _
    omega
  · rcases at_ e he with z | z
    · exact h.num e z
    · rw [z]; exact h3
theorem Dr.up {L : List Nat} {c m B c' B' : Nat} {ts : Tm.Terms} (h : Dr L c m B ts) (hc : c ≤ c') (hB : B ≤ B') : Dr L c' m B' ts :=
  ⟨h.over, h.len, Nat.le_trans h.few hc, fun e he => Nat.le_trans (h.num e he) hB⟩
theorem Dr.rev {L : List Nat} {c m B : Nat} {ts : Tm.Terms} (h : Dr L c m B ts) : Dr L c m B ts.reverse :=
  ⟨fun e he => h.over e (List.mem_reverse.mp he), fun e he => h.len e (List.mem_reverse.mp he), by rw [List.length_reverse]; exact h.few, fun e he => h.num e (List.mem_reverse.mp he)⟩
theorem Dr.size {L : List Nat} {c m B : Nat} {ts : Tm.Terms} (h : Dr L c m B ts) : Tm.size ts ≤ c * B := by
  have key : ∀ ts : Tm.Terms, (∀ e ∈ ts, e.2.natAbs ≤ B) → Tm.size ts ≤ ts.length * B := by
    intro ts
    induction ts with
    | nil => intro _; exact Nat.zero_le _
    | cons e r ih =>
      intro h
      rw [Tm.size_cons, List.length_cons, Nat.add_mul]
      have h1 := h e List.mem_cons_self
      have h2 := ih fun x hx => h x (List.mem_cons_of_mem _ hx)
      omega
  exact Nat.le_trans (key ts h.num) (Nat.mul_le_mul_right _ h.few)
theorem Dr.fit {L : List Nat} {c m B : Nat} {ts : Tm.Terms} (h : Dr L c m B ts) (lL : Low L) (hc : c ≤ 100) (hm : m ≤ 100) (hB : B ≤ 2 ^ 200) : Tm.Fit ts := by
  refine ⟨fun e he => lL.sub (h.over e he), ?_, ⟨m, h.len, ?_, by omega⟩, by have := h.few; omega⟩
  · have h1 : c * B ≤ 100 * 2 ^ 200 := Nat.mul_le_mul hc hB
    exact Nat.lt_of_le_of_lt (Nat.le_trans h.size h1) (Nat.lt_of_lt_of_le (by decide : 100 * 2 ^ 200 < 2 ^ 250) (Nat.pow_le_pow_right (by decide) (by decide)))
  · have := Nat.mul_le_mul h.few hm
    omega
def sp__law_terms (K : PySem.W.Frag) : Sp := fun vs H Q _ => ∃ (g : Addr) (L : List Nat) (c m n : Nat), vs = [.ref g, tx L, .int (c : Nat), .int (m : Nat)] ∧ 1 ≤ L.length ∧ L.length ≤ 20 ∧ c ≤ 6 ∧ m ≤ 6 ∧ Gen H g n ∧ n ≤ 2 ^ 39 ∧
  ∀ p us ts H', Xg g H H' → H p = none → H' p = some (.lst us) → TV K H' us ts → Dr L c m (10 ^ 29) ts → Gen H' g (n + 1000) → Q (.ref p) H'
theorem ok__law_terms (T : Tx K mg) : FnOk P w K mg base CX0 4 T.a__law_terms T.fd__law_terms ["_law_generator_here", "_law_signs_here", "_law_count_here", "_law_most"] (sp__law_terms K) := by
  refine T.F__law_terms.ok sc__law_terms (fun vs H Q E h => ?_) (fun cdv A outer s H vs Q E hr h => ?_)
  · obtain ⟨_, _, _, _, _, rfl, _⟩ := h
    rfl
  · obtain ⟨g, L, c, m, n, rfl, l1, l2, c6, m6, gn, n1, q⟩ := h
    refine ⟨_, (pss_one (ps_ret (pe_lc (own := [("_law_turn", 4)]) (g := (gName 4)) (tt := tYes) rfl sc__law_terms.nd (pi_range1 (by rfl) T.n_range (pa_cons (pv 2) pa_nil)) (blkOk_by (own := [("_law_turn", 4)]) (N := N__law_terms) (sc := defScope s__law_terms) (by decide +kernel)) (fun _ _ _ _ _ => (pg_name (i := 4) sc__law_terms.nd rfl (by first | exact Or.inl rfl | exact Or.inr rfl))) (fun _ _ _ _ _ => pts_nil) (fun _ _ _ _ _ => (pe_tup (pa_cons (pe_call (ok__law_word T) (hr.mono (by decide)) (by rfl) T.g__law_word T.F__law_word.kp (b__law_word T) .nil pass0 (pa_cons (pv 0) (pa_cons (pv 1) (pa_cons pe_int (pa_cons (pv 3) pa_nil))))) (pa_cons (pe_call (ok__law_number T) (hr.mono (by decide)) (by rfl) T.g__law_number T.F__law_number.kp (b__law_number T) .nil pass0 (pa_cons (pv 0) pa_nil)) pa_nil))))))), ?_⟩
    refine ⟨_, rfl, (c : Nat), rfl, by omega, by omega, fun D nD => ?_⟩
    rw [Int.toNat_natCast]
    have gD : g ≠ D := gn.ne nD
    refine lc_range (lo := 0) (n := c) (fun i H2 => ∃ acc ts, Xg g H H2 ∧ Gen H2 g (n + 100 * i) ∧ H2 D = some (.lst acc) ∧ TV K H2 acc ts ∧ Dr L i m (10 ^ 29) ts) ⟨[], [], Xg.of (ex_upd nD), gn.oth gD, upd_same, trivial, Dr.nil⟩ (fun i H2 hi hp => ?_) (fun H2 hp => ?_)
    · obtain ⟨acc, ts, x2, g2, hD, hT, dr⟩ := hp
      refine ⟨rfl, ?_⟩
      dsimp only [tYes]
      refine iteT ⟨_, rfl, _, rfl, _, rfl, g, L, 0, m, _, rfl, l1, by omega, by omega, by omega, g2, by omega, fun y H3 y1 y2 y3 x3 g3 => ?_⟩
      refine ⟨_, rfl, g, _, rfl, g3, by omega, fun r H4 rb x4 g4 => ?_⟩
      refine ⟨sz_of (by show 2 ≤ 100000; omega), fun t nt => ?_⟩
      have x24 := x3.trans x4
      have hD4 := x24 D _ gD.symm hD
      have Dt : D ≠ t := ex_ne hD4 nt
      have gt : g ≠ t := g4.ne nt
      have hT4 : TV K H4 acc ts := hT.imp fun q xs h => sqT_gen g2 x24 h
      have al := hT.len
      have few := dr.few
      refine ⟨acc, by rw [upd_ne Dt]; exact hD4, sz_lt (by omega), acc ++ [.ref t], ts ++ [(y, r)], ((x2.trans x24).ex (ex_upd nt)).mut nD, ((g4.oth gt).oth gD).up (by omega), upd_same, ?_, dr.snoc y3 y2 rb⟩
      exact ((hT4.ex (ex_upd nt)).upL (by rw [upd_ne Dt]; exact hD4)).snoc (.inl (.inl (by rw [upd_ne Dt.symm, upd_same])))
    · obtain ⟨acc, ts, x2, g2, hD, hT, dr⟩ := hp
      exact q D acc ts H2 x2 nD hD hT dr (g2.up (by omega))
theorem Dr.wide {L : List Nat} {c m B m' : Nat} {ts : Tm.Terms} (h : Dr L c m B ts) (hm : m ≤ m') : Dr L c m' B ts := ⟨h.over, fun e he => Nat.le_trans (h.len e he) hm, h.few, h.num⟩
theorem Dr.cons {L : List Nat} {c m B : Nat} {ts : Tm.Terms} {y : List Nat} {r : Int} (h : Dr L c m B ts) (h1 : ∀ a ∈ y, a ∈ L) (h2 : y.length ≤ m) (h3 : r.natAbs ≤ B) : Dr L (c + 1) m B ((y, r) :: ts) := by
  refine ⟨fun e he => ?_, fun e he => ?_, ?_, fun e he => ?_⟩
  · rcases List.mem_cons.mp he with z | z
    · rw [z]; exact h1
    · exact h.over e z
  · rcases List.mem_cons.mp he with z | z
    · rw [z]; exact h2
    · exact h.len e z
  · have := h.few
    show ts.length + 1 ≤ _
    omega
  · rcases List.mem_cons.mp he with z | z
    · rw [z]; exact h3
    · exact h.num e z
/-- a list in memory of some terms -/
def LT (K : PySem.W.Frag) (H : Hp) (p : Addr) (ts : Tm.Terms) : Prop := ∃ us, H p = some (.lst us) ∧ TV K H us ts
theorem LT.ex {H H' : Hp} {p : Addr} {ts : Tm.Terms} (h : LT K H p ts) (x : Ex H H') : LT K H' p ts := let ⟨us, a, b⟩ := h; ⟨us, x _ _ a, b.ex x⟩
theorem LT.tl {H : Hp} {p : Addr} {ts : Tm.Terms} (h : LT K H p ts) : TL K H p ts := let ⟨us, a, b⟩ := h; ⟨us, .inl (.inl a), b⟩
theorem LT.ne {H : Hp} {p g : Addr} {n : Nat} {ts : Tm.Terms} (h : LT K H p ts) (gn : Gen H g n) : p ≠ g := fun z => by
  obtain ⟨us, a, b⟩ := h
  obtain ⟨_, _, _, h1, _⟩ := gn
  rw [z, h1] at a
  cases a
  exact tv_not_gen b
theorem LT.xg {H H' : Hp} {g p : Addr} {n : Nat} {ts : Tm.Terms} (h : LT K H p ts) (gn : Gen H g n) (x : Xg g H H') : LT K H' p ts := by
  have ne := h.ne gn
  obtain ⟨us, a, b⟩ := h
  exact ⟨us, x p _ ne a, b.imp fun q xs h => sqT_gen gn x h⟩
theorem tup_up {H : Hp} {q p : Addr} {xs ys : List V} (h : H q = some (.tup xs)) (n : H p = none) : upd H p (.lst ys) q = some (.tup xs) := by rw [upd_ne (ex_ne h n)]; exact h
def sp__law_degree (K : PySem.W.Frag) : Sp := fun vs H Q _ => ∃ (a : Addr) (ts : Tm.Terms), vs = [.ref a] ∧ TL K H a ts ∧ Tm.Nf ts ∧ (∀ e ∈ ts, e.1.length ≤ 1000) ∧ ts.length ≤ 1000 ∧ ∀ H', Ex H H' → Q (.int (deg ts)) H'

theorem flat_tk {α β : Type} (f : α → List β) (l : List α) (j : Nat) : ((l.take j).flatMap f).length ≤ (l.flatMap f).length := by
  conv => rhs; rw [← List.take_append_drop j l, List.flatMap_append, List.length_append]
  omega
def sp_all_texts (K : PySem.W.Frag) : Sp := fun vs H Q _ => ∃ (L : List Nat) (d : Nat), vs = [tx L, .int (d : Nat)] ∧ 1 ≤ L.length ∧ L.length ≤ 4 ∧ d ≤ 30 ∧ (∀ k, k ≤ d → L.length ^ k ≤ 400 ∧ (Lx.upto L k).length ≤ 400) ∧ ∀ H' p, Ex H H' → H p = none → H' p = some (.lst ((Lx.upto L d).map tx)) → Q (.ref p) H'
theorem ok__law_all_texts (T : Tx K mg) : FnOk P w K mg base CX0 1 T.a__law_all_texts T.fd__law_all_texts ["_law_signs_here", "_law_depth"] (sp_all_texts K) := by
  refine T.F__law_all_texts.ok sc__law_all_texts (fun vs H Q E h => ?_) (fun cdv A outer s H vs Q E hr h => ?_)
  · obtain ⟨_, _, rfl, _⟩ := h
    rfl
  · obtain ⟨L, d, rfl, l1, l4, d4, hb, q⟩ := h
    refine ⟨_, (pss_cons (ps_par (i := 2) (j := 3) (by rfl) sc__law_all_texts.nd rfl rfl (by decide) (by rfl) (by rfl) (pa_cons (pe_lst (pa_cons pe_str pa_nil)) (pa_cons (pe_lst (pa_cons pe_str pa_nil)) pa_nil)) (by rfl)) (pss_cons (ps_for PassesOwn.never rfl (pi_range1 (by rfl) T.n_range (pa_cons (pv 1) pa_nil)) (pg_name (i := 4) sc__law_all_texts.nd rfl (by first | exact Or.inl rfl | exact Or.inr rfl)) (pss_cons (ps_set (i := 5) sc__law_all_texts.nd rfl (by first | exact Or.inl rfl | exact Or.inr rfl) (pe_lst pa_nil)) (pss_cons (ps_for PassesOwn.never rfl (pi_list (pv 3)) (pg_name (i := 6) sc__law_all_texts.nd rfl (by first | exact Or.inl rfl | exact Or.inr rfl)) (pss_one (ps_set (i := 5) sc__law_all_texts.nd rfl (by first | exact Or.inl rfl | exact Or.inr rfl) (pe_op op_cat (pv 5) (pe_lc (own := [("_law_letter", 7)]) (g := (gName 7)) (tt := tYes) rfl sc__law_all_texts.nd (pi_str (pv 0)) (blkOk_by (own := [("_law_letter", 7)]) (N := N__law_all_texts) (sc := defScope s__law_all_texts) (by decide +kernel)) (fun _ _ _ _ _ => (pg_name (i := 7) sc__law_all_texts.nd rfl (by first | exact Or.inl rfl | exact Or.inr rfl))) (fun _ _ _ _ _ => pts_nil) (fun _ _ _ _ _ => (pe_op op_add_str (pv 6) (pv 7)))))))) (pss_one (ps_par (i := 2) (j := 3) (by rfl) sc__law_all_texts.nd rfl rfl (by decide) (by rfl) (by rfl) (pa_cons (pe_op op_cat (pv 2) (pv 5)) (pa_cons (pv 5) pa_nil)) (by rfl)))))) (pss_one (ps_ret (pv 2))))), ?_⟩
    refine ⟨by show 1 ≤ sizeLine; decide, fun p1 n1 => ?_⟩
    refine ⟨by show 1 ≤ sizeLine; decide, fun p2 n2 => ?_⟩
    refine ⟨_, _, rfl, ?_⟩
    have em : V.str (Str.ofString "") = tx [] := by rfl
    rw [em] at *
    have d12 : p1 ≠ p2 := fun e => by rw [← e, upd_same] at n2; cases n2
    have x0 : Ex H (upd (upd H p1 (.lst [tx []])) p2 (.lst [tx []])) := (Ex.new n1).trans (Ex.new n2)
    have f2 : H p2 = none := fresh_back (Ex.new n1) n2
    have a1 : upd (upd H p1 (.lst [tx []])) p2 (.lst [tx []]) p1 = some (.lst ((Lx.upto L 0).map tx)) := by rw [upd_ne d12, upd_same]; rfl
    have a2 : upd (upd H p1 (.lst [tx []])) p2 (.lst [tx []]) p2 = some (.lst ((Lx.wd L 0).map tx)) := by rw [upd_same]; rfl
    generalize upd (upd H p1 (.lst [tx []])) p2 (.lst [tx []]) = H0 at x0 a1 a2 ⊢
    refine ⟨_, rfl, (d : Nat), rfl, by omega, by omega, ?_⟩
    rw [Int.toNat_natCast]
    refine for_range (lo := 0) (n := d) (fun i σ2 H2 => ∃ pf pr y4 y5 y6 y7, σ2 = [some (tx L), some (.int (d : Nat)), some (.ref pf), some (.ref pr), y4, y5, y6, y7] ∧ Ex H H2 ∧ H pf = none ∧ H2 pf = some (.lst ((Lx.upto L i).map tx)) ∧ H2 pr = some (.lst ((Lx.wd L i).map tx))) ⟨p1, p2, _, _, _, _, rfl, x0, n1, a1, a2⟩ (fun i σ2 H2 hi hp => ?_) (fun σ2 H2 hp => ?_)
    · obtain ⟨pf, pr, y4, y5, y6, y7, rfl, b1, b2, b3, b4⟩ := hp
      have bw : (Lx.wd L (i + 1)).length ≤ 400 := by rw [Lx.wd_len]; exact (hb (i + 1) (by omega)).1
      have bu := (hb i (by omega)).2
      refine ⟨by show 0 ≤ sizeLine; decide, fun pw npw => ?_⟩
      have xw : Ex H2 (upd H2 pw (.lst [])) := Ex.new npw
      have hw : upd H2 pw (.lst []) pw = some (.lst ((((Lx.wd L i).take 0).flatMap fun u => L.map fun a => u ++ [a]).map tx)) := by rw [upd_same]; rfl
      generalize upd H2 pw (.lst []) = H3 at xw hw ⊢
      refine ⟨_, rfl, pr, rfl, ⟨_, .inl (.inl (xw _ _ b4))⟩, ?_⟩
      refine for_list (xs := (Lx.wd L i).map tx) (fun j σ3 H4 => ∃ pw y4 y6 y7, σ3 = [some (tx L), some (.int (d : Nat)), some (.ref pf), some (.ref pr), y4, some (.ref pw), y6, y7] ∧ Ex H2 H4 ∧ H4 pw = some (.lst ((((Lx.wd L i).take j).flatMap fun u => L.map fun a => u ++ [a]).map tx))) ⟨pw, _, _, _, rfl, xw, hw⟩ (fun j σ3 H4 _ ⟨_, _, _, _, _, e, _⟩ => .inl (.inl (e _ _ b4))) (fun j x σ3 H4 hx hp => ?_) (fun σ3 H4 hp => ?_)
      · obtain ⟨pw, y4, y6, y7, rfl, c1, c2⟩ := hp
        rw [List.getElem?_map] at hx
        cases hW : (Lx.wd L i)[j]? with
        | none => rw [hW] at hx; cases hx
        | some u =>
        rw [hW] at hx
        obtain rfl : tx u = x := Option.some.inj hx
        have lu : u.length = i := Lx.wd_size L i u (List.mem_of_getElem? hW)
        have etk : (Lx.wd L i).take (j + 1) = (Lx.wd L i).take j ++ [u] := by rw [List.take_add_one, hW]; rfl
        refine ⟨_, rfl, _, rfl, mk L, rfl, fun D nD => ?_⟩
        refine lc_it (walk_str (z := mk L)) (fun k H5 => Ex H4 H5 ∧ H5 D = some (.lst (((L.take k).map fun a => u ++ [a]).map tx))) ⟨Ex.new nD, upd_same⟩ (fun _ _ _ _ => trivial) (fun k x H5 H6 hk hp y => ?_) (fun H5 hp => ?_)
        · obtain ⟨rfl, c, hc, rfl⟩ := y
          have hc' : L[k]? = some c := by rw [← hc]; simp
          have hkl : k < L.length := (List.getElem?_eq_some_iff.mp hc').1
          have et : L.take (k + 1) = L.take k ++ [c] := by rw [List.take_add_one, hc']; rfl
          refine ⟨rfl, _, rfl, _, rfl, mk u, mk [c], rfl, rfl, by rw [mk_len, mk_len, lu]; exact sz_of (by show _ + 1 ≤ _; omega), ?_⟩
          rw [mk_app]
          refine ⟨_, hp.2, by rw [List.length_map, List.length_map, List.length_take]; exact sz_lt (by omega), Ex.mut hp.1 nD, ?_⟩
          rw [upd_same, et, List.map_append, List.map_append]
          rfl
        · have e0 : (mk L).cps.size = L.length := mk_len L
          obtain ⟨h1, h2⟩ := hp
          rw [e0, List.take_of_length_le (Nat.le_refl _)] at h2
          have eT : (((Lx.wd L i).take (j + 1)).flatMap fun u => L.map fun a => u ++ [a]) = (((Lx.wd L i).take j).flatMap fun u => L.map fun a => u ++ [a]) ++ L.map fun a => u ++ [a] := by
            rw [etk, List.flatMap_append, List.flatMap_singleton]
          have bd := flat_tk (fun u => L.map fun a => u ++ [a]) (Lx.wd L i) (j + 1)
          have bw' : ((Lx.wd L i).flatMap fun u => L.map fun a => u ++ [a]).length ≤ 400 := bw
          rw [eT, List.length_append] at bd
          have h3 := h1 _ _ c2
          refine ⟨pw, D, _, _, rfl, rfl, h3, h2, by rw [List.length_map, List.length_map]; exact sz_of (by omega), fun z nz => ?_⟩
          refine ⟨z, _, _, _, rfl, (c1.trans h1).trans (Ex.new nz), ?_⟩
          rw [upd_same, eT, List.map_append]
      · obtain ⟨pw, y4, y6, y7, rfl, c1, c2⟩ := hp
        rw [List.length_map, List.take_of_length_le (Nat.le_refl _)] at c2
        have c2' : H4 pw = some (.lst ((Lx.wd L (i + 1)).map tx)) := c2
        refine ⟨_, rfl, _, rfl, pf, pw, _, _, rfl, rfl, c1 _ _ b3, c2', by rw [List.length_map, List.length_map]; exact sz_of (by omega), fun z nz => ⟨_, rfl, _, _, rfl, ?_⟩⟩
        refine ⟨z, pw, _, _, _, _, rfl, (b1.trans c1).trans (Ex.new nz), fresh_back (b1.trans c1) nz, ?_, Ex.new nz _ _ c2'⟩
        rw [upd_same]
        show _ = some (HO.lst ((Lx.upto L i ++ Lx.wd L (i + 1)).map tx))
        rw [List.map_append]
    · obtain ⟨pf, pr, y4, y5, y6, y7, rfl, b1, b2, b3, b4⟩ := hp
      exact ⟨_, rfl, q H2 pf b1 b2 b3⟩
end
end K15
set_option Elab.async false
set_option linter.all false
set_option maxRecDepth 100000
set_option maxHeartbeats 4000000
/-! Tm10: mixtures of words, products of sums -/
namespace Tm
open Mx
theorem tot_cons (e : Wd × Int) (r : Terms) (w : Wd) : tot (e :: r) w = (if e.1 = w then e.2 else 0) + tot r w := rfl
/-- a letter behind each word -/
def behind (ts : Terms) (c : Nat) : Terms := ts.map fun e => (e.1 ++ [c], e.2)
theorem behind_tot (c : Nat) (w : Wd) (d : Nat) : ∀ ts : Terms, tot (behind ts c) (w ++ [d]) = if c = d then tot ts w else 0
  | [] => by simp [behind, tot]
  | e :: r => by
    have ih := behind_tot c w d r
    show (if e.1 ++ [c] = w ++ [d] then e.2 else 0) + tot (behind r c) (w ++ [d]) = _
    rw [ih, tot_cons]
    by_cases h : c = d
    · subst h
      rw [if_pos rfl, if_pos rfl]
      by_cases g : e.1 = w
      · rw [if_pos g, if_pos (by rw [g])]
      · rw [if_neg g, if_neg (fun z => g (List.append_cancel_right z))]
    · rw [if_neg h, if_neg h, if_neg (fun z => h (by have := List.append_inj_right' z rfl; simpa using this))]
      rfl
theorem behind_tot_nil (c : Nat) : ∀ ts : Terms, tot (behind ts c) [] = 0
  | [] => rfl
  | e :: r => by
    show (if e.1 ++ [c] = [] then e.2 else 0) + tot (behind r c) [] = 0
    rw [behind_tot_nil c r, if_neg (by simp)]
    rfl
theorem behind_worth (c d : Nat) (p : Wd) : ∀ ts : Terms, worth (behind ts c) (p ++ [d]) = worth (behind ts c) p + if c = d then worth ts p else 0
  | [] => by simp [behind, worth]
  | e :: r => by
    have ih := behind_worth c d p r
    show worth ((e.1 ++ [c], e.2) :: behind r c) (p ++ [d]) = worth ((e.1 ++ [c], e.2) :: behind r c) p + _
    rw [worth_cons, worth_cons, ih, worth_cons, cnt_snoc]
    dsimp only
    by_cases h : c = d
    · rw [if_pos h, if_pos h, if_pos h, Int.natCast_add, Int.mul_add]
      omega
    · rw [if_neg h, if_neg h, if_neg h]
      simp
theorem behind_worth_nil (c : Nat) : ∀ ts : Terms, worth (behind ts c) [] = 0
  | [] => rfl
  | e :: r => by
    show worth ((e.1 ++ [c], e.2) :: behind r c) [] = 0
    rw [worth_cons, behind_worth_nil c r, cnt_empty _ (by simp)]
    simp
/-- the mixture of two words, both turned about -/
def mx : Wd → Wd → Terms
  | [], v => [(v.reverse, 1)]
  | a :: u, [] => [((a :: u).reverse, 1)]
  | a :: u, b :: v => behind (mx u (b :: v)) a ++ behind (mx (a :: u) v) b ++ (if a = b then behind (mx u v) a else [])
termination_by u v => u.length + v.length
theorem mx_l (v : Wd) : mx [] v = [(v.reverse, 1)] := by rw [mx]
theorem mx_r (u : Wd) : mx u [] = [(u.reverse, 1)] := by
  cases u with
  | nil => rw [mx]
  | cons a u => rw [mx]
theorem mx_c (a b : Nat) (u v : Wd) : mx (a :: u) (b :: v) = behind (mx u (b :: v)) a ++ behind (mx (a :: u) v) b ++ (if a = b then behind (mx u v) a else []) := by rw [mx]
theorem one_worth (w t : Wd) : worth [(w, 1)] t = ((cnt w t : Nat) : Int) := by
  rw [worth_cons]
  show 1 * ((cnt w t : Nat) : Int) + 0 = _
  omega
theorem mx_worth_nil (u v : Wd) : worth (mx u v) [] = ((cnt u.reverse [] : Nat) : Int) * ((cnt v.reverse [] : Nat) : Int) := by
  cases u with
  | nil => rw [mx_l, one_worth, List.reverse_nil, cnt_nil]; simp
  | cons a u =>
    cases v with
    | nil => rw [mx_r, one_worth, List.reverse_nil, cnt_nil]; simp
    | cons b v =>
      rw [mx_c, worth_app, worth_app, behind_worth_nil, behind_worth_nil, cnt_empty (a :: u).reverse (by simp)]
      split
      · rw [behind_worth_nil]; simp
      · simp [worth]
theorem mx_worth : ∀ (t u v : Wd), worth (mx u v) t.reverse = ((cnt u.reverse t.reverse : Nat) : Int) * ((cnt v.reverse t.reverse : Nat) : Int)
  | [], u, v => mx_worth_nil u v
  | c :: t, [], v => by rw [mx_l, one_worth, List.reverse_nil, cnt_nil]; simp
  | c :: t, a :: u, [] => by rw [mx_r, one_worth, List.reverse_nil, cnt_nil]; simp
  | c :: t, a :: u, b :: v => by
    have i1 := mx_worth t u (b :: v)
    have i2 := mx_worth t (a :: u) v
    have i3 := mx_worth t u v
    have i4 := mx_worth t (a :: u) (b :: v)
    have ee : ∀ x y : Wd, x.reverse ++ [c] = y.reverse ++ [c] ↔ x.reverse = y.reverse := fun x y => ⟨List.append_cancel_right, fun h => by rw [h]⟩
    rw [mx_c, worth_app, worth_app] at i4 ⊢
    rw [List.reverse_cons (a := c), behind_worth, behind_worth, i1, i2]
    have e1 : cnt (a :: u).reverse (t.reverse ++ [c]) = cnt (a :: u).reverse t.reverse + if a = c then cnt u.reverse t.reverse else 0 := by rw [List.reverse_cons, cnt_snoc]
    have e2 : cnt (b :: v).reverse (t.reverse ++ [c]) = cnt (b :: v).reverse t.reverse + if b = c then cnt v.reverse t.reverse else 0 := by rw [List.reverse_cons, cnt_snoc]
    rw [e1, e2]
    have e3 : worth (if a = b then behind (mx u v) a else []) (t.reverse ++ [c]) = worth (if a = b then behind (mx u v) a else []) t.reverse + if a = b then (if a = c then ((cnt u.reverse t.reverse : Nat) : Int) * ((cnt v.reverse t.reverse : Nat) : Int) else 0) else 0 := by
      by_cases h : a = b
      · rw [if_pos h, if_pos h, behind_worth, i3]
      · rw [if_neg h, if_neg h]
        simp [worth]
    rw [e3]
    generalize worth (behind (mx u (b :: v)) a) t.reverse = A at *
    generalize worth (behind (mx (a :: u) v) b) t.reverse = B at *
    generalize worth (if a = b then behind (mx u v) a else []) t.reverse = C at *
    generalize cnt (a :: u).reverse t.reverse = p at *
    generalize cnt (b :: v).reverse t.reverse = q at *
    generalize cnt u.reverse t.reverse = x at *
    generalize cnt v.reverse t.reverse = y at *
    simp only [Int.natCast_add]
    by_cases ac : a = c <;> by_cases bc : b = c
    · have ab : a = b := by omega
      rw [if_pos ac, if_pos bc, if_pos ab, if_pos ac, if_pos ac, if_pos bc, Int.add_mul, Int.mul_add, Int.mul_add]
      omega
    · have ab : a ≠ b := by omega
      rw [if_pos ac, if_neg bc, if_neg ab, if_pos ac, if_neg bc, Int.add_mul]
      simp only [Int.natCast_zero, Int.add_zero]
      omega
    · have ab : a ≠ b := by omega
      rw [if_neg ac, if_pos bc, if_neg ab, if_neg ac, if_pos bc, Int.mul_add]
      simp only [Int.natCast_zero, Int.add_zero]
      omega
    · rw [if_neg ac, if_neg bc, if_neg ac, if_neg ac, if_neg bc]
      have : (if a = b then (0 : Int) else 0) = 0 := by split <;> rfl
      rw [this]
      simp only [Int.natCast_zero, Int.add_zero]
      omega
theorem mixed (u v t : Wd) : worth (mx u.reverse v.reverse) t = ((cnt u t : Nat) : Int) * ((cnt v t : Nat) : Int) := by
  have := mx_worth t.reverse u.reverse v.reverse
  rwa [List.reverse_reverse, List.reverse_reverse, List.reverse_reverse] at this
theorem behind_mem {ts : Terms} {c : Nat} {e : Wd × Int} (h : e ∈ behind ts c) : ∃ x ∈ ts, e = (x.1 ++ [c], x.2) := by
  obtain ⟨x, hx, rfl⟩ := List.mem_map.mp h
  exact ⟨x, hx, rfl⟩
theorem size_app (a b : Terms) : size (a ++ b) = size a + size b := by
  unfold size
  rw [List.map_append, List.sum_append]
theorem size_behind (c : Nat) (ts : Terms) : size (behind ts c) = size ts := by
  unfold size behind
  rw [List.map_map]
  rfl
theorem mx_words : ∀ (n : Nat) (u v : Wd), u.length + v.length ≤ n → ∀ e ∈ mx u v, e.1.length ≤ u.length + v.length ∧ ∀ c ∈ e.1, c ∈ u ∨ c ∈ v
  | n, [], v, _, e, he => by
    rw [mx_l, List.mem_singleton] at he
    subst he
    exact ⟨by simp, fun c hc => .inr (List.mem_reverse.mp hc)⟩
  | n, a :: u, [], _, e, he => by
    rw [mx_r, List.mem_singleton] at he
    subst he
    exact ⟨by simp, fun c hc => .inl (List.mem_reverse.mp hc)⟩
  | 0, a :: u, b :: v, h, e, he => by simp at h
  | n + 1, a :: u, b :: v, h, e, he => by
    simp only [List.length_cons] at h
    have i1 := mx_words n u (b :: v) (by simp only [List.length_cons]; omega)
    have i2 := mx_words n (a :: u) v (by simp only [List.length_cons]; omega)
    have i3 := mx_words n u v (by omega)
    rw [mx_c] at he
    simp only [List.length_cons] at i1 i2 ⊢
    have put : ∀ (x : Wd × Int) (c : Nat), (c = a ∨ c = b) → (∀ k ∈ x.1, k ∈ a :: u ∨ k ∈ b :: v) → ∀ k ∈ x.1 ++ [c], k ∈ a :: u ∨ k ∈ b :: v := fun x c hc hx k hk => by
      rcases List.mem_append.mp hk with z | z
      · exact hx k z
      · rw [List.mem_singleton] at z
        subst z
        rcases hc with y | y
        · exact .inl (by rw [y]; exact List.mem_cons_self)
        · exact .inr (by rw [y]; exact List.mem_cons_self)
    rcases List.mem_append.mp he with he | he
    · rcases List.mem_append.mp he with he | he
      · obtain ⟨x, hx, rfl⟩ := behind_mem he
        obtain ⟨l, c⟩ := i1 x hx
        refine ⟨by simp; omega, put x a (.inl rfl) fun k hk => (c k hk).imp (List.mem_cons_of_mem _) id⟩
      · obtain ⟨x, hx, rfl⟩ := behind_mem he
        obtain ⟨l, c⟩ := i2 x hx
        refine ⟨by simp; omega, put x b (.inr rfl) fun k hk => (c k hk).imp id (List.mem_cons_of_mem _)⟩
    · split at he
      · obtain ⟨x, hx, rfl⟩ := behind_mem he
        obtain ⟨l, c⟩ := i3 x hx
        refine ⟨by simp; omega, put x a (.inl rfl) fun k hk => (c k hk).imp (List.mem_cons_of_mem _) (List.mem_cons_of_mem _)⟩
      · cases he
theorem mx_size : ∀ (n : Nat) (u v : Wd), u.length + v.length ≤ n → size (mx u v) ≤ 3 ^ n
  | n, [], v, _ => by
    rw [mx_l]
    show 1 + 0 ≤ _
    exact Nat.one_le_pow _ _ (by decide)
  | n, a :: u, [], _ => by
    rw [mx_r]
    show 1 + 0 ≤ _
    exact Nat.one_le_pow _ _ (by decide)
  | 0, a :: u, b :: v, h => by simp at h
  | n + 1, a :: u, b :: v, h => by
    simp only [List.length_cons] at h
    have i1 := mx_size n u (b :: v) (by simp only [List.length_cons]; omega)
    have i2 := mx_size n (a :: u) v (by simp only [List.length_cons]; omega)
    have i3 := mx_size n u v (by omega)
    rw [mx_c, size_app, size_app, size_behind, size_behind, Nat.pow_succ]
    split
    · rw [size_behind]
      omega
    · show _ + _ + 0 ≤ _
      omega
theorem tot_abs (ts : Terms) (w : Wd) : (tot ts w).natAbs ≤ size ts := by
  induction ts with
  | nil => exact Nat.le_refl _
  | cons e r ih =>
    rw [tot_cons, size_cons]
    split <;> omega
/-- a term times a sum -/
def prod1 (e : Wd × Int) (us : Terms) : Terms := us.flatMap fun f => (mx e.1.reverse f.1.reverse).map fun x => (x.1, e.2 * f.2 * x.2)
def prod (ts us : Terms) : Terms := ts.flatMap fun e => prod1 e us
theorem prod_app (a b us : Terms) : prod (a ++ b) us = prod a us ++ prod b us := List.flatMap_append
theorem prod_one (e : Wd × Int) (us : Terms) : prod [e] us = prod1 e us := by unfold prod; rw [List.flatMap_cons, List.flatMap_nil, List.append_nil]
theorem prod1_app (e : Wd × Int) (a b : Terms) : prod1 e (a ++ b) = prod1 e a ++ prod1 e b := List.flatMap_append
theorem worth_times (k : Int) (t : Wd) : ∀ m : Terms, worth (m.map fun x => (x.1, k * x.2)) t = k * worth m t
  | [] => by simp [worth]
  | e :: r => by
    rw [List.map_cons, worth_cons, worth_cons, worth_times k t r, Int.mul_add, Int.mul_assoc]
theorem prod1_worth (e : Wd × Int) (t : Wd) : ∀ us : Terms, worth (prod1 e us) t = e.2 * ((cnt e.1 t : Nat) : Int) * worth us t
  | [] => by simp [prod1, worth]
  | f :: r => by
    show worth ((mx e.1.reverse f.1.reverse).map (fun x => (x.1, e.2 * f.2 * x.2)) ++ prod1 e r) t = _
    rw [worth_app, prod1_worth e t r, worth_times, mixed, worth_cons, Int.mul_add]
    congr 1
    rw [Int.mul_assoc, Int.mul_assoc]
    congr 1
    rw [← Int.mul_assoc, Int.mul_comm f.2, Int.mul_assoc]
theorem prod_worth (us : Terms) (t : Wd) : ∀ ts : Terms, worth (prod ts us) t = worth ts t * worth us t
  | [] => by simp [prod, worth]
  | e :: r => by
    show worth (prod1 e us ++ prod r us) t = _
    rw [worth_app, prod_worth us t r, prod1_worth, worth_cons, Int.add_mul]
/-- sums with the same worths are the same -/
theorem eq_of_worth {ts us : Terms} (h : ∀ t, worth ts t = worth us t) : nf ts = nf us := by
  refine nf_congr fun w => ?_
  have nd := nf_nf (ts ++ Gm.scale (-1) us)
  have z : ∀ e ∈ nf (ts ++ Gm.scale (-1) us), (0 : Int) ∣ e.2 := Gm.dvd_words (Gm.nf_nodup nd) fun e _ => by
    rw [worth_nf, worth_app, h]
    have : worth (Gm.scale (-1) us) e.1 = -1 * worth us e.1 := worth_times (-1) e.1 us
    rw [this]
    exact ⟨0, by omega⟩
  have e0 : nf (ts ++ Gm.scale (-1) us) = [] := by
    cases q : nf (ts ++ Gm.scale (-1) us) with
    | nil => rfl
    | cons e r =>
      rw [q] at z nd
      obtain ⟨k, hk⟩ := z e List.mem_cons_self
      exact absurd (by rw [hk]; omega) (nd.2 e List.mem_cons_self)
  have t0 := nf_tot (ts ++ Gm.scale (-1) us) w
  rw [e0, tot_app, Gm.scale_tot] at t0
  have : tot [] w = 0 := rfl
  omega
theorem prod_mem {ts us : Terms} {x : Wd × Int} (h : x ∈ prod ts us) : ∃ e ∈ ts, ∃ f ∈ us, ∃ y ∈ mx e.1.reverse f.1.reverse, x.1 = y.1 := by
  obtain ⟨e, he, h⟩ := List.mem_flatMap.mp h
  obtain ⟨f, hf, h⟩ := List.mem_flatMap.mp h
  obtain ⟨y, hy, rfl⟩ := List.mem_map.mp h
  exact ⟨e, he, f, hf, y, hy, rfl⟩
theorem prod_words {L : List Nat} {a b : Nat} {ts us : Terms} (h1 : ∀ e ∈ ts, e.1.length ≤ a ∧ ∀ c ∈ e.1, c ∈ L) (h2 : ∀ e ∈ us, e.1.length ≤ b ∧ ∀ c ∈ e.1, c ∈ L) {x : Wd × Int} (h : x ∈ prod ts us) : x.1.length ≤ a + b ∧ ∀ c ∈ x.1, c ∈ L := by
  obtain ⟨e, he, f, hf, y, hy, q⟩ := prod_mem h
  obtain ⟨l, c⟩ := mx_words _ _ _ (Nat.le_refl _) y hy
  rw [List.length_reverse, List.length_reverse] at l
  obtain ⟨l1, c1⟩ := h1 e he
  obtain ⟨l2, c2⟩ := h2 f hf
  rw [q]
  exact ⟨by omega, fun k hk => (c k hk).elim (fun z => c1 k (List.mem_reverse.mp z)) fun z => c2 k (List.mem_reverse.mp z)⟩
theorem size_times (k : Int) : ∀ m : Terms, size (m.map fun x => (x.1, k * x.2)) = k.natAbs * size m
  | [] => rfl
  | e :: r => by
    rw [List.map_cons, size_cons, size_cons, size_times k r, Int.natAbs_mul, Nat.mul_add]
theorem prod1_size {b n : Nat} {e : Wd × Int} (he : e.1.length + b ≤ n) : ∀ {us : Terms}, (∀ f ∈ us, f.1.length ≤ b) → size (prod1 e us) ≤ e.2.natAbs * size us * 3 ^ n
  | [], _ => Nat.zero_le _
  | f :: r, h => by
    show size ((mx e.1.reverse f.1.reverse).map (fun x => (x.1, e.2 * f.2 * x.2)) ++ prod1 e r) ≤ _
    have ih := prod1_size he (us := r) fun x hx => h x (List.mem_cons_of_mem _ hx)
    have hl := h f List.mem_cons_self
    have m := mx_size n e.1.reverse f.1.reverse (by rw [List.length_reverse, List.length_reverse]; omega)
    rw [size_app, size_times, size_cons, Int.natAbs_mul, Nat.mul_add, Nat.add_mul]
    exact Nat.add_le_add (Nat.mul_le_mul_left _ m) ih
theorem prod_size {a b n : Nat} (hn : a + b ≤ n) {us : Terms} (h2 : ∀ f ∈ us, f.1.length ≤ b) : ∀ {ts : Terms}, (∀ e ∈ ts, e.1.length ≤ a) → size (prod ts us) ≤ size ts * size us * 3 ^ n
  | [], _ => Nat.zero_le _
  | e :: r, h => by
    show size (prod1 e us ++ prod r us) ≤ _
    have ih := prod_size hn h2 (ts := r) fun x hx => h x (List.mem_cons_of_mem _ hx)
    have hl := h e List.mem_cons_self
    have m := prod1_size (b := b) (n := n) (e := e) (by omega) h2
    rw [size_app, size_cons, Nat.add_mul, Nat.add_mul]
    exact Nat.add_le_add m ih
/-- lists of unlike members are no longer than what they are taken of -/
theorem nodup_le : ∀ {l m : List Wd}, l.Nodup → (∀ x ∈ l, x ∈ m) → l.length ≤ m.length
  | [], _, _, _ => Nat.zero_le _
  | x :: l, m, nd, h => by
    obtain ⟨n1, n2⟩ := List.nodup_cons.mp nd
    have hm := h x List.mem_cons_self
    have ih := nodup_le (l := l) (m := m.erase x) n2 fun y hy => by
      have ne : y ≠ x := fun z => n1 (z ▸ hy)
      exact (List.mem_erase_of_ne ne).mpr (h y (List.mem_cons_of_mem _ hy))
    rw [List.length_erase_of_mem hm] at ih
    have : 0 < m.length := List.length_pos_of_mem hm
    rw [List.length_cons]
    omega
end Tm
namespace Tm
theorem mx_len : ∀ (n : Nat) (u v : Wd), u.length + v.length ≤ n → (mx u v).length ≤ 3 ^ n
  | n, [], v, _ => by
    rw [mx_l]
    exact Nat.one_le_pow _ _ (by decide)
  | n, a :: u, [], _ => by
    rw [mx_r]
    exact Nat.one_le_pow _ _ (by decide)
  | 0, a :: u, b :: v, h => by simp at h
  | n + 1, a :: u, b :: v, h => by
    simp only [List.length_cons] at h
    have i1 := mx_len n u (b :: v) (by simp only [List.length_cons]; omega)
    have i2 := mx_len n (a :: u) v (by simp only [List.length_cons]; omega)
    have i3 := mx_len n u v (by omega)
    have bl : ∀ (ts : Terms) (c : Nat), (behind ts c).length = ts.length := fun ts c => List.length_map _
    rw [mx_c, List.length_append, List.length_append, bl, bl, Nat.pow_succ]
    split
    · rw [bl]
      omega
    · show _ + _ + 0 ≤ _
      omega
end Tm
set_option linter.all false
/-! Nx3: the list of all readings -/
namespace Nx
open Mx
/-- the places from lo on at which a stands, ascending -/
def plcs (t : List Nat) (a lo : Nat) : List Nat := ((List.range (t.length - lo)).map fun j => lo + j).filter fun q => decide (t[q]? = some a)
theorem plcs_mem {t : List Nat} {a lo q : Nat} : q ∈ plcs t a lo ↔ lo ≤ q ∧ t[q]? = some a := by
  unfold plcs
  rw [List.mem_filter, List.mem_map]
  constructor
  · rintro ⟨⟨j, _, rfl⟩, h⟩
    exact ⟨Nat.le_add_right _ _, of_decide_eq_true h⟩
  · rintro ⟨h1, h2⟩
    have := (List.getElem?_eq_some_iff.mp h2).1
    exact ⟨⟨q - lo, List.mem_range.mpr (by omega), by omega⟩, decide_eq_true h2⟩
/-- where the next place may be -/
def nxt (lo : Nat) (p : List Nat) : Nat := match p.getLast? with
  | some q => q + 1
  | none => lo
/-- all readings of w with places from lo on -/
def rds (t : List Nat) : Nat → List Nat → List (List Nat)
  | _, [] => [[]]
  | lo, a :: u => (plcs t a lo).flatMap fun q => (rds t (q + 1) u).map fun p => q :: p
theorem rds_nil (t : List Nat) (lo : Nat) : rds t lo [] = [[]] := rfl
theorem rds_cons (t : List Nat) (lo a : Nat) (u : List Nat) : rds t lo (a :: u) = (plcs t a lo).flatMap fun q => (rds t (q + 1) u).map fun p => q :: p := rfl
theorem nxt_cons (lo q : Nat) (p : List Nat) : nxt lo (q :: p) = nxt (q + 1) p := by
  unfold nxt
  cases p with
  | nil => rfl
  | cons x p =>
    rw [List.getLast?_cons_cons]
    cases h : (x :: p).getLast? with
    | none => simp at h
    | some y => rfl
theorem rds_snoc (t : List Nat) (a : Nat) : ∀ (w : List Nat) (lo : Nat), rds t lo (w ++ [a]) = (rds t lo w).flatMap fun p => (plcs t a (nxt lo p)).map fun q => p ++ [q]
  | [], lo => by
    show (plcs t a lo).flatMap (fun q => (rds t (q + 1) []).map fun p => q :: p) = [[]].flatMap _
    rw [List.flatMap_singleton]
    show (plcs t a lo).flatMap (fun q => [[q]]) = (plcs t a lo).map fun q => [q]
    induction plcs t a lo with
    | nil => rfl
    | cons x l ih => rw [List.flatMap_cons, ih, List.map_cons]; rfl
  | b :: w, lo => by
    show (plcs t b lo).flatMap (fun q => (rds t (q + 1) (w ++ [a])).map fun p => q :: p) = ((plcs t b lo).flatMap fun q => (rds t (q + 1) w).map fun p => q :: p).flatMap _
    rw [List.flatMap_assoc]
    congr 1
    funext q
    rw [rds_snoc t a w (q + 1), List.map_flatMap, List.flatMap_map]
    congr 1
    funext p
    rw [List.map_map, nxt_cons]
    rfl
/-- they are the readings -/
theorem rds_isr (t : List Nat) : ∀ (w : List Nat) (lo : Nat) (p : List Nat), p ∈ rds t lo w ↔ isr t lo w p
  | [], lo, p => by
    rw [rds_nil, List.mem_singleton]
    exact Iff.rfl
  | a :: u, lo, p => by
    rw [rds_cons, List.mem_flatMap]
    constructor
    · rintro ⟨q, hq, hp⟩
      obtain ⟨p', hp', rfl⟩ := List.mem_map.mp hp
      obtain ⟨h1, h2⟩ := plcs_mem.mp hq
      exact ⟨h1, h2, (rds_isr t u (q + 1) p').mp hp'⟩
    · intro h
      cases p with
      | nil => exact h.elim
      | cons q p =>
        exact ⟨q, plcs_mem.mpr ⟨h.1, h.2.1⟩, List.mem_map.mpr ⟨p, (rds_isr t u (q + 1) p).mpr h.2.2, rfl⟩⟩
theorem plcs_up (t : List Nat) (a lo : Nat) : (plcs t a lo).Pairwise (· < ·) := by
  unfold plcs
  refine List.Pairwise.filter _ ?_
  rw [List.pairwise_map]
  exact List.pairwise_lt_range.imp fun h => by omega
theorem flat_up {α β : Type} {R : β → β → Prop} {S : α → α → Prop} (f : α → List β) : ∀ {l : List α}, l.Pairwise S → (∀ x ∈ l, (f x).Pairwise R) → (∀ x ∈ l, ∀ y ∈ l, S x y → ∀ b ∈ f x, ∀ c ∈ f y, R b c) → (l.flatMap f).Pairwise R
  | [], _, _, _ => List.Pairwise.nil
  | x :: l, h, h1, h2 => by
    rw [List.flatMap_cons, List.pairwise_append]
    have hx := List.pairwise_cons.mp h
    refine ⟨h1 x List.mem_cons_self, flat_up f hx.2 (fun y hy => h1 y (List.mem_cons_of_mem _ hy)) (fun y hy z hz => h2 y (List.mem_cons_of_mem _ hy) z (List.mem_cons_of_mem _ hz)), fun b hb c hc => ?_⟩
    obtain ⟨y, hy, hc⟩ := List.mem_flatMap.mp hc
    exact h2 x List.mem_cons_self y (List.mem_cons_of_mem _ hy) (hx.1 y hy) b hb c hc
/-- in order -/
theorem rds_up (t : List Nat) : ∀ (w : List Nat) (lo : Nat), (rds t lo w).Pairwise (· < ·)
  | [], lo => List.pairwise_singleton _ _
  | a :: u, lo => by
    refine flat_up _ (plcs_up t a lo) (fun q _ => ?_) fun q _ q' _ h b hb c hc => ?_
    · rw [List.pairwise_map]
      exact (rds_up t u (q + 1)).imp fun h => List.cons_lt_cons_self.mpr h
    · obtain ⟨b', _, rfl⟩ := List.mem_map.mp hb
      obtain ⟨c', _, rfl⟩ := List.mem_map.mp hc
      exact List.Lex.rel h
/-! ### how many -/
theorem sum_filter {P : Nat → Bool} (f : Nat → Nat) : ∀ l : List Nat, ((l.filter P).map f).sum = (l.map fun q => if P q = true then f q else 0).sum
  | [] => rfl
  | x :: l => by
    rw [List.filter_cons, List.map_cons, List.sum_cons, ← sum_filter f l]
    split
    · rw [List.map_cons, List.sum_cons]
    · rw [Nat.zero_add]
theorem plcs_sum (t : List Nat) (a lo : Nat) (u : List Nat) : ((plcs t a lo).map fun q => cnt u (t.drop (q + 1))).sum = gap t a u lo (t.length - lo) := by
  unfold plcs gap
  rw [sum_filter, List.map_map]
  congr 1
  apply List.map_congr_left
  intro j _
  simp
theorem gap_all (t : List Nat) (a : Nat) (u : List Nat) : ∀ (n lo : Nat), t.length - lo = n → gap t a u lo n = cnt (a :: u) (t.drop lo)
  | 0, lo, h => by
    rw [gap_zero, List.drop_eq_nil_of_le (by omega), cnt_e]
  | n + 1, lo, h => by
    have hl : lo < t.length := by omega
    rw [gap_first, gap_all t a u n (lo + 1) (by omega), back a u hl, List.getElem?_eq_getElem hl]
    by_cases z : a = t[lo]
    · rw [if_pos z, if_pos (by rw [z])]; omega
    · rw [if_neg z, if_neg (fun y => z (Option.some.inj y).symm)]; omega
theorem len_flat {α β : Type} (f : α → List β) (l : List α) : (l.flatMap f).length = (l.map fun x => (f x).length).sum := by
  induction l with
  | nil => rfl
  | cons x l ih => rw [List.flatMap_cons, List.length_append, ih, List.map_cons, List.sum_cons]
theorem rds_len (t : List Nat) : ∀ (w : List Nat) (lo : Nat), (rds t lo w).length = cnt w (t.drop lo)
  | [], lo => by rw [cnt_nil]; rfl
  | a :: u, lo => by
    rw [rds_cons, len_flat]
    have e : (fun q => ((rds t (q + 1) u).map fun p => q :: p).length) = fun q => cnt u (t.drop (q + 1)) := by
      funext q
      rw [List.length_map, rds_len t u (q + 1)]
    rw [e, plcs_sum, gap_all t a u _ lo rfl]
end Nx
set_option Elab.async false
set_option linter.all false
set_option maxRecDepth 100000
set_option maxHeartbeats 4000000
/-! Tm11: pairs of readings that cover a text -/
namespace Tm
open Mx Nx
/-- how many pairs of readings of two words cover a text -/
def cf : Wd → Wd → Wd → Nat
  | u, v, [] => if u = [] ∧ v = [] then 1 else 0
  | u, v, c :: s => (if u.head? = some c then cf u.tail v s else 0) + (if v.head? = some c then cf u v.tail s else 0) + if u.head? = some c ∧ v.head? = some c then cf u.tail v.tail s else 0
theorem cf_l : ∀ s v : Wd, cf [] v s = if v = s then 1 else 0
  | [], v => by simp [cf]
  | c :: s, [] => by simp [cf]
  | c :: s, b :: v => by
    rw [cf]
    have ih := cf_l s v
    by_cases h : b = c <;> simp [h, ih]
theorem cf_r : ∀ s u : Wd, cf u [] s = if u = s then 1 else 0
  | [], u => by simp [cf]
  | c :: s, [] => by simp [cf]
  | c :: s, b :: v => by
    rw [cf]
    have ih := cf_r s v
    by_cases h : b = c <;> simp [h, ih]
theorem mx_cf : ∀ s u v : Wd, tot (mx u v) s.reverse = ((cf u v s : Nat) : Int)
  | s, [], v => by
    rw [mx_l, cf_l, tot_cons]
    show (if v.reverse = s.reverse then 1 else 0) + 0 = _
    by_cases h : v = s
    · rw [if_pos (by rw [h]), if_pos h]; rfl
    · rw [if_neg (fun z => h (List.reverse_inj.mp z)), if_neg h]; rfl
  | s, a :: u, [] => by
    rw [mx_r, cf_r, tot_cons]
    show (if (a :: u).reverse = s.reverse then 1 else 0) + 0 = _
    by_cases h : a :: u = s
    · rw [if_pos (by rw [h]), if_pos h]; rfl
    · rw [if_neg (fun z => h (List.reverse_inj.mp z)), if_neg h]; rfl
  | [], a :: u, b :: v => by
    rw [List.reverse_nil, mx_c, tot_app, tot_app, behind_tot_nil, behind_tot_nil]
    split
    · rw [behind_tot_nil]; simp [cf]
    · simp [cf, tot]
  | c :: s, a :: u, b :: v => by
    have i1 := mx_cf s u (b :: v)
    have i2 := mx_cf s (a :: u) v
    have i3 := mx_cf s u v
    rw [List.reverse_cons, mx_c, tot_app, tot_app, behind_tot, behind_tot, i1, i2, cf]
    by_cases ac : a = c <;> by_cases bc : b = c
    · have ab : a = b := by omega
      rw [if_pos ab, behind_tot, i3]
      simp [ac, bc]
    · have ab : a ≠ b := by omega
      rw [if_neg ab]
      simp [ac, bc, tot]
    · have ab : a ≠ b := by omega
      rw [if_neg ab]
      simp [ac, bc, tot]
    · have : tot (if a = b then behind (mx u v) a else []) (s.reverse ++ [c]) = 0 := by
        split
        · rw [behind_tot, if_neg ac]
        · rfl
      rw [this]
      simp [ac, bc]
theorem turn_worth (t : Wd) : ∀ ts : Terms, worth (turn ts) t = worth ts t.reverse
  | [] => rfl
  | e :: r => by
    show worth ((e.1.reverse, e.2) :: turn r) t = _
    rw [worth_cons, worth_cons, turn_worth t r]
    have := cnt_rev t.reverse e.1
    rw [List.reverse_reverse] at this
    dsimp only
    rw [this]
theorem mixed_cf (u v t : Wd) : tot (mx u.reverse v.reverse) t = ((cf u v t : Nat) : Int) := by
  have e : nf (turn (mx u v)) = nf (mx u.reverse v.reverse) := eq_of_worth fun x => by
    rw [turn_worth, mixed, mx_worth' u v x]
  rw [← nf_tot, ← e, nf_tot, turn_tot]
  exact mx_cf t u v
where
  mx_worth' (u v x : Wd) : worth (mx u v) x.reverse = ((cnt u x : Nat) : Int) * ((cnt v x : Nat) : Int) := by
    rw [mx_worth x u v, cnt_rev, cnt_rev]
/-! ### readings -/
def cov (n lo : Nat) (p q : List Nat) : Bool := (List.range n).all fun i => decide (i < lo) || decide (i ∈ p) || decide (i ∈ q)
theorem cov_iff {n lo : Nat} {p q : List Nat} : cov n lo p q = true ↔ ∀ i, lo ≤ i → i < n → i ∈ p ∨ i ∈ q := by
  unfold cov
  rw [List.all_eq_true]
  constructor
  · intro h i h1 h2
    have := h i (List.mem_range.mpr h2)
    simp only [Bool.or_eq_true, decide_eq_true_eq] at this
    rcases this with (z | z) | z
    · omega
    · exact .inl z
    · exact .inr z
  · intro h i hi
    have := List.mem_range.mp hi
    simp only [Bool.or_eq_true, decide_eq_true_eq]
    by_cases z : i < lo
    · exact .inl (.inl z)
    · exact (h i (by omega) this).elim (fun y => .inl (.inr y)) .inr
/-- the pairs that cover -/
def cvs (n lo : Nat) (A B : List (List Nat)) : Nat := (A.map fun p => (B.filter fun q => cov n lo p q).length).sum
theorem cvs_appL (n lo : Nat) (A A' B : List (List Nat)) : cvs n lo (A ++ A') B = cvs n lo A B + cvs n lo A' B := by
  unfold cvs
  rw [List.map_append, List.sum_append]
theorem cvs_appR (n lo : Nat) (B B' : List (List Nat)) : ∀ A : List (List Nat), cvs n lo A (B ++ B') = cvs n lo A B + cvs n lo A B'
  | [] => rfl
  | p :: A => by
    have ih := cvs_appR n lo B B' A
    unfold cvs at ih ⊢
    rw [List.map_cons, List.sum_cons, ih, List.filter_append, List.length_append, List.map_cons, List.sum_cons, List.map_cons, List.sum_cons]
    omega
theorem cvs_map (n lo lo' : Nat) (f g : List Nat → List Nat) (B : List (List Nat)) : ∀ A : List (List Nat), (∀ p ∈ A, ∀ q ∈ B, cov n lo (f p) (g q) = cov n lo' p q) → cvs n lo (A.map f) (B.map g) = cvs n lo' A B
  | [], _ => rfl
  | p :: A, h => by
    have ih := cvs_map n lo lo' f g B A fun x hx => h x (List.mem_cons_of_mem _ hx)
    unfold cvs at ih ⊢
    rw [List.map_cons, List.map_cons, List.sum_cons, ih, List.map_cons, List.sum_cons, List.filter_map, List.length_map]
    congr 2
    exact List.filter_congr fun q hq => h p List.mem_cons_self q hq
theorem cvs_zero (n lo : Nat) (B : List (List Nat)) : ∀ A : List (List Nat), (∀ p ∈ A, ∀ q ∈ B, cov n lo p q = false) → cvs n lo A B = 0
  | [], _ => rfl
  | p :: A, h => by
    have ih := cvs_zero n lo B A fun x hx => h x (List.mem_cons_of_mem _ hx)
    unfold cvs at ih ⊢
    rw [List.map_cons, List.sum_cons, ih]
    have : B.filter (fun q => cov n lo p q) = [] := List.filter_eq_nil_iff.mpr fun q hq => by rw [h p List.mem_cons_self q hq]; simp
    rw [this]
    rfl
theorem plcs_first {t : List Nat} {a lo : Nat} (h : lo < t.length) : plcs t a lo = (if t[lo]? = some a then [lo] else []) ++ plcs t a (lo + 1) := by
  unfold plcs
  have e : t.length - lo = t.length - (lo + 1) + 1 := by omega
  rw [e, List.range_succ_eq_map, List.map_cons, List.filter_cons, List.map_map]
  have m : (List.range (t.length - (lo + 1))).map ((fun j => lo + j) ∘ Nat.succ) = (List.range (t.length - (lo + 1))).map fun j => lo + 1 + j := List.map_congr_left fun j _ => by show lo + (j + 1) = _; omega
  rw [m, Nat.add_zero]
  by_cases z : t[lo]? = some a
  · rw [if_pos (decide_eq_true z), if_pos z]; rfl
  · rw [if_neg (by simpa using z), if_neg z]; rfl
theorem rds_first {t : List Nat} {lo c : Nat} (h : t[lo]? = some c) (u : List Nat) : rds t lo u = (if u.head? = some c then (rds t (lo + 1) u.tail).map (lo :: ·) else []) ++ rds t (lo + 1) u := by
  have hl := (List.getElem?_eq_some_iff.mp h).1
  cases u with
  | nil => rfl
  | cons a u =>
    rw [rds_cons, plcs_first hl, List.flatMap_append, rds_cons, h]
    congr 1
    by_cases z : a = c
    · subst z
      simp
    · have z2 : ¬ c = a := fun q => z q.symm
      simp [z, z2]
theorem rds_none {t : List Nat} {lo : Nat} (h : t.length ≤ lo) (u : List Nat) : rds t lo u = if u = [] then [[]] else [] := by
  cases u with
  | nil => rfl
  | cons a u =>
    rw [rds_cons]
    have : plcs t a lo = [] := by
      unfold plcs
      have : t.length - lo = 0 := by omega
      rw [this]
      rfl
    rw [this]
    rfl
theorem rds_ge {t : List Nat} {lo : Nat} {u p : List Nat} (h : p ∈ rds t lo u) {i : Nat} (hi : i ∈ p) : lo ≤ i := by
  obtain ⟨k, hk⟩ := List.getElem?_of_mem hi
  exact (isr_at ((rds_isr t u lo p).mp h) hk).1
theorem cvs_cf (t : List Nat) : ∀ (s : List Nat) (lo : Nat) (u v : List Nat), t.drop lo = s → cvs t.length lo (rds t lo u) (rds t lo v) = cf u v s
  | [], lo, u, v, h => by
    have hl : t.length ≤ lo := List.drop_eq_nil_iff.mp h
    rw [rds_none hl, rds_none hl, cf]
    by_cases a : u = [] <;> by_cases b : v = []
    · rw [if_pos a, if_pos b, if_pos ⟨a, b⟩]
      have : cov t.length lo [] [] = true := cov_iff.mpr fun i h1 h2 => by omega
      unfold cvs
      simp [this]
    · rw [if_pos a, if_neg b, if_neg (fun z => b z.2)]; rfl
    · rw [if_neg a, if_neg (c := u = [] ∧ v = []) (fun z => a z.1)]; rfl
    · rw [if_neg a, if_neg (c := u = [] ∧ v = []) (fun z => a z.1)]; rfl
  | c :: s, lo, u, v, h => by
    have hc : t[lo]? = some c := by
      have := congrArg (fun l : List Nat => l[0]?) h
      simpa using this
    have hl := (List.getElem?_eq_some_iff.mp hc).1
    have hs : t.drop (lo + 1) = s := by
      have := congrArg List.tail h
      rwa [List.tail_drop] at this
    have i1 := cvs_cf t s (lo + 1) u.tail v hs
    have i2 := cvs_cf t s (lo + 1) u v.tail hs
    have i3 := cvs_cf t s (lo + 1) u.tail v.tail hs
    have low : ∀ {w p : List Nat}, p ∈ rds t (lo + 1) w → lo ∉ p := fun hp hm => by
      have := rds_ge hp hm
      omega
    have same : ∀ p q p' q' : List Nat, (lo ∈ p ∨ lo ∈ q) → (∀ i, lo < i → ((i ∈ p ∨ i ∈ q) ↔ (i ∈ p' ∨ i ∈ q'))) → cov t.length lo p q = cov t.length (lo + 1) p' q' := fun p q p' q' h1 h2 => by
      rw [Bool.eq_iff_iff, cov_iff, cov_iff]
      constructor
      · intro g i a b
        exact (h2 i (by omega)).mp (g i (by omega) b)
      · intro g i a b
        by_cases z : i = lo
        · rw [z]; exact h1
        · exact (h2 i (by omega)).mpr (g i (by omega) b)
    have off : ∀ {i : Nat} {p : List Nat}, lo < i → (i ∈ lo :: p ↔ i ∈ p) := fun hi => by
      rw [List.mem_cons]
      exact ⟨fun z => z.elim (fun y => by omega) id, .inr⟩
    rw [rds_first hc u, rds_first hc v, cvs_appL, cvs_appR, cvs_appR, cf]
    have z4 : cvs t.length lo (rds t (lo + 1) u) (rds t (lo + 1) v) = 0 := cvs_zero _ _ _ _ fun p hp q hq => by
      cases z : cov t.length lo p q with
      | false => rfl
      | true =>
        rcases cov_iff.mp z lo (Nat.le_refl _) hl with y | y
        · exact absurd y (low hp)
        · exact absurd y (low hq)
    have z1 : cvs t.length lo (if u.head? = some c then (rds t (lo + 1) u.tail).map (lo :: ·) else []) (rds t (lo + 1) v) = if u.head? = some c then cf u.tail v s else 0 := by
      by_cases a : u.head? = some c
      · rw [if_pos a, if_pos a, ← i1]
        have := cvs_map t.length lo (lo + 1) (lo :: ·) id (rds t (lo + 1) v) (rds t (lo + 1) u.tail) fun p hp q hq => same _ _ _ _ (.inl List.mem_cons_self) fun i hi => by rw [off hi]; rfl
        rwa [List.map_id] at this
      · rw [if_neg a, if_neg a]; rfl
    have z2 : cvs t.length lo (rds t (lo + 1) u) (if v.head? = some c then (rds t (lo + 1) v.tail).map (lo :: ·) else []) = if v.head? = some c then cf u v.tail s else 0 := by
      by_cases a : v.head? = some c
      · rw [if_pos a, if_pos a, ← i2]
        have := cvs_map t.length lo (lo + 1) id (lo :: ·) (rds t (lo + 1) v.tail) (rds t (lo + 1) u) fun p hp q hq => same _ _ _ _ (.inr List.mem_cons_self) fun i hi => by rw [off hi]; rfl
        rwa [List.map_id] at this
      · rw [if_neg a, if_neg a]
        exact cvs_zero _ _ _ _ fun p hp q hq => absurd hq List.not_mem_nil
    have z3 : cvs t.length lo (if u.head? = some c then (rds t (lo + 1) u.tail).map (lo :: ·) else []) (if v.head? = some c then (rds t (lo + 1) v.tail).map (lo :: ·) else []) = if u.head? = some c ∧ v.head? = some c then cf u.tail v.tail s else 0 := by
      by_cases a : u.head? = some c
      · by_cases b : v.head? = some c
        · rw [if_pos a, if_pos b, if_pos ⟨a, b⟩, ← i3]
          exact cvs_map t.length lo (lo + 1) (lo :: ·) (lo :: ·) (rds t (lo + 1) v.tail) (rds t (lo + 1) u.tail) fun p hp q hq => same _ _ _ _ (.inl List.mem_cons_self) fun i hi => by rw [off hi, off hi]
        · rw [if_neg b, if_neg (c := u.head? = some c ∧ v.head? = some c) (fun z => b z.2)]
          exact cvs_zero _ _ _ _ fun p hp q hq => absurd hq List.not_mem_nil
      · rw [if_neg a, if_neg (c := u.head? = some c ∧ v.head? = some c) (fun z => a z.1)]; rfl
    rw [z1, z2, z3, z4]
    omega
/-- the pairs are as many as the mixture has of the text -/
theorem pairs (t u v : List Nat) : ((cvs t.length 0 (rds t 0 u) (rds t 0 v) : Nat) : Int) = tot (mx u.reverse v.reverse) t := by
  rw [mixed_cf, cvs_cf t t 0 u v (by rw [List.drop_zero])]
end Tm
set_option Elab.async false
set_option linter.all false
set_option maxRecDepth 100000
set_option maxHeartbeats 4000000
/-! Tm13: the degree of a product -/
namespace Tm
open Mx
inductive Shuf : Wd → Wd → Wd → Prop
  | nil : Shuf [] [] []
  | left {a u v w} : Shuf u v w → Shuf (a :: u) v (a :: w)
  | right {b u v w} : Shuf u v w → Shuf u (b :: v) (b :: w)
theorem Shuf.symm {u v w : Wd} (h : Shuf u v w) : Shuf v u w := by
  induction h with
  | nil => exact .nil
  | left _ ih => exact .right ih
  | right _ ih => exact .left ih
theorem Shuf.len {u v w : Wd} (h : Shuf u v w) : w.length = u.length + v.length := by
  induction h with
  | nil => rfl
  | left _ ih => simp only [List.length_cons]; omega
  | right _ ih => simp only [List.length_cons]; omega
theorem Shuf.app (u v : Wd) : Shuf u v (u ++ v) := by
  induction u with
  | nil =>
    induction v with
    | nil => exact .nil
    | cons b v ih => exact .right ih
  | cons a u ih => exact .left ih
/-- a later word in the place of one of the two gives a later mixture -/
theorem Shuf.later {u v w : Wd} (h : Shuf u v w) : ∀ {x : Wd}, x.length = u.length → u < x → ∃ y, Shuf x v y ∧ w < y := by
  induction h with
  | nil =>
    intro x hl hx
    have : x = [] := List.length_eq_zero_iff.mp hl
    subst this
    exact absurd hx (List.lt_irrefl _)
  | @left a u v w h ih =>
    intro x hl hx
    cases x with
    | nil => cases hl
    | cons b x =>
      rcases List.cons_lt_cons_iff.mp hx with z | ⟨rfl, z⟩
      · exact ⟨b :: (x ++ v), .left (Shuf.app x v), List.cons_lt_cons_iff.mpr (.inl z)⟩
      · obtain ⟨y, h1, h2⟩ := ih (by simpa using hl) z
        exact ⟨a :: y, .left h1, List.cons_lt_cons_iff.mpr (.inr ⟨rfl, h2⟩)⟩
  | @right b u v w h ih =>
    intro x hl hx
    obtain ⟨y, h1, h2⟩ := ih hl hx
    exact ⟨b :: y, .right h1, List.cons_lt_cons_iff.mpr (.inr ⟨rfl, h2⟩)⟩
theorem cf_long : ∀ (s u v : Wd), u.length + v.length < s.length → cf u v s = 0
  | [], u, v, h => by simp at h
  | c :: s, u, v, h => by
    simp only [List.length_cons] at h
    rw [cf]
    have t : ∀ x : Wd, x.tail.length ≤ x.length := fun x => by rw [List.length_tail]; omega
    have p : ∀ x : Wd, x.head? = some c → x.tail.length + 1 = x.length := fun x hx => by cases x with
      | nil => cases hx
      | cons _ _ => rfl
    have z1 : (if u.head? = some c then cf u.tail v s else 0) = 0 := by
      split
      · rename_i hx
        have := p u hx
        exact cf_long s _ _ (by omega)
      · rfl
    have z2 : (if v.head? = some c then cf u v.tail s else 0) = 0 := by
      split
      · rename_i hx
        have := p v hx
        exact cf_long s _ _ (by omega)
      · rfl
    have z3 : (if u.head? = some c ∧ v.head? = some c then cf u.tail v.tail s else 0) = 0 := by
      split
      · rename_i hx
        have := p u hx.1
        have := t v
        exact cf_long s _ _ (by omega)
      · rfl
    rw [z1, z2, z3]
theorem cf_shuf : ∀ (s u v : Wd), s.length = u.length + v.length → (cf u v s ≠ 0 ↔ Shuf u v s)
  | [], u, v, h => by
    have a : u = [] := List.length_eq_zero_iff.mp (by simp at h; omega)
    have b : v = [] := List.length_eq_zero_iff.mp (by simp at h; omega)
    subst a b
    exact ⟨fun _ => .nil, fun _ => by simp [cf]⟩
  | c :: s, u, v, h => by
    simp only [List.length_cons] at h
    rw [cf]
    have p : ∀ x : Wd, x.head? = some c → x = c :: x.tail ∧ x.tail.length + 1 = x.length := fun x hx => by cases x with
      | nil => cases hx
      | cons y _ => cases hx; exact ⟨rfl, rfl⟩
    have z3 : (if u.head? = some c ∧ v.head? = some c then cf u.tail v.tail s else 0) = 0 := by
      split
      · rename_i hx
        have := (p u hx.1).2
        have := (p v hx.2).2
        exact cf_long s _ _ (by omega)
      · rfl
    rw [z3, Nat.add_zero]
    constructor
    · intro q
      by_cases a : u.head? = some c
      · obtain ⟨e1, e2⟩ := p u a
        by_cases ca : cf u.tail v s = 0
        · rw [if_pos a, ca, Nat.zero_add] at q
          by_cases b : v.head? = some c
          · obtain ⟨f1, f2⟩ := p v b
            rw [if_pos b] at q
            rw [f1]
            exact .right ((cf_shuf s _ _ (by omega)).mp q)
          · rw [if_neg b] at q
            exact absurd rfl q
        · rw [e1]
          exact .left ((cf_shuf s _ _ (by omega)).mp ca)
      · rw [if_neg a, Nat.zero_add] at q
        by_cases b : v.head? = some c
        · obtain ⟨f1, f2⟩ := p v b
          rw [if_pos b] at q
          rw [f1]
          exact .right ((cf_shuf s _ _ (by omega)).mp q)
        · rw [if_neg b] at q
          exact absurd rfl q
    · intro q
      cases q with
      | @left _ u' _ _ q =>
        have := (cf_shuf s u' v (by simp at h; omega)).mpr q
        rw [if_pos (show (c :: u').head? = some c from rfl)]
        show cf u' v s + _ ≠ 0
        omega
      | @right _ _ v' _ q =>
        have := (cf_shuf s u v' (by simp at h; omega)).mpr q
        rw [if_pos (show (c :: v').head? = some c from rfl)]
        show _ + cf u v' s ≠ 0
        omega
theorem prod_tot (w : Wd) (us : Terms) : ∀ ts : Terms, tot (prod ts us) w = (ts.map fun e => (us.map fun f => e.2 * f.2 * ((cf e.1 f.1 w : Nat) : Int)).sum).sum
  | [] => rfl
  | e :: r => by
    show tot (prod1 e us ++ prod r us) w = _
    rw [tot_app, prod_tot w us r, List.map_cons, List.sum_cons]
    congr 1
    induction us with
    | nil => rfl
    | cons f us ih =>
      show tot (Gm.scale (e.2 * f.2) (mx e.1.reverse f.1.reverse) ++ prod1 e us) w = _
      rw [tot_app, ih, Gm.scale_tot, mixed_cf, List.map_cons, List.sum_cons]
theorem sum_one {α : Type} {f : α → Int} {x0 : α} : ∀ {l : List α}, l.Nodup → x0 ∈ l → (∀ x ∈ l, x ≠ x0 → f x = 0) → (l.map f).sum = f x0
  | [], _, h, _ => absurd h List.not_mem_nil
  | x :: l, nd, h, z => by
    obtain ⟨n1, n2⟩ := List.nodup_cons.mp nd
    rw [List.map_cons, List.sum_cons]
    rcases List.mem_cons.mp h with e | e
    · subst e
      have : (l.map f).sum = 0 := by
        have zz : ∀ y ∈ l, f y = 0 := fun y hy => z y (List.mem_cons_of_mem _ hy) fun q => n1 (q ▸ hy)
        clear z nd n1 n2 h
        induction l with
        | nil => rfl
        | cons y l ih =>
          rw [List.map_cons, List.sum_cons, zz y List.mem_cons_self, ih fun q hq => zz q (List.mem_cons_of_mem _ hq)]
          rfl
      rw [this]
      omega
    · rw [z x List.mem_cons_self fun q => n1 (q ▸ e), sum_one n2 e fun y hy => z y (List.mem_cons_of_mem _ hy)]
      omega
theorem last_of {S : List Wd} (n : S ≠ []) : ∃ w ∈ S, ∀ x ∈ S, ¬ w < x := by
  induction S with
  | nil => exact absurd rfl n
  | cons a S ih =>
    by_cases e : S = []
    · subst e
      exact ⟨a, List.mem_cons_self, fun x hx => by rw [List.mem_singleton.mp hx]; exact List.lt_irrefl _⟩
    · obtain ⟨w, hw, h⟩ := ih e
      by_cases z : w < a
      · refine ⟨a, List.mem_cons_self, fun x hx q => ?_⟩
        rcases List.mem_cons.mp hx with y | y
        · rw [y] at q; exact List.lt_irrefl _ q
        · exact h x y (List.lt_trans z q)
      · refine ⟨w, List.mem_cons_of_mem _ hw, fun x hx q => ?_⟩
        rcases List.mem_cons.mp hx with y | y
        · rw [y] at q; exact z q
        · exact h x y q
theorem nf_pairs {ts : Terms} (h : Nf ts) : ts.Nodup := (List.pairwise_map.mp (Gm.nf_nodup h)).imp fun {a b} h (q : a = b) => h (by rw [q])
theorem word_eq {ts : Terms} (h : Nf ts) {e f : Wd × Int} (he : e ∈ ts) (hf : f ∈ ts) (q : e.1 = f.1) : e = f := by
  have a := h.tot_mem e he
  have b := h.tot_mem f hf
  exact Prod.ext q (by rw [← a, ← b, q])
/-- a product's longest words -/
theorem prod_long {ts us : Terms} (h1 : Nf ts) (h2 : Nf us) {e0 f0 : Wd × Int} (he0 : e0 ∈ ts) (hf0 : f0 ∈ us) (m1 : ∀ e ∈ ts, e.1.length ≤ e0.1.length) (m2 : ∀ f ∈ us, f.1.length ≤ f0.1.length) :
    ∃ x ∈ nf (prod ts us), x.1.length = e0.1.length + f0.1.length := by
  let D := e0.1.length + f0.1.length
  -- the last of all mixtures of that length
  let S : List Wd := ts.flatMap fun e => us.flatMap fun f => ((mx e.1.reverse f.1.reverse).map (·.1)).filter fun w => decide (w.length = D) && decide (cf e.1 f.1 w ≠ 0)
  have inS : ∀ {e f : Wd × Int} {w : Wd}, e ∈ ts → f ∈ us → w.length = D → cf e.1 f.1 w ≠ 0 → w ∈ S := fun {e f w} he hf hw hc => by
    have : tot (mx e.1.reverse f.1.reverse) w ≠ 0 := by rw [mixed_cf]; omega
    obtain ⟨x, hx, q⟩ := Nf.mem_tot this
    exact List.mem_flatMap.mpr ⟨e, he, List.mem_flatMap.mpr ⟨f, hf, List.mem_filter.mpr ⟨List.mem_map.mpr ⟨x, hx, q⟩, by rw [decide_eq_true hw, decide_eq_true hc]; rfl⟩⟩⟩
  have len_of : ∀ {e f : Wd × Int} {w : Wd}, e ∈ ts → f ∈ us → w.length = D → cf e.1 f.1 w ≠ 0 → e.1.length = e0.1.length ∧ f.1.length = f0.1.length := fun {e f w} he hf hw hc => by
    have a := m1 e he
    have b := m2 f hf
    have c : ¬ e.1.length + f.1.length < w.length := fun z => hc (cf_long w _ _ z)
    have : D = e0.1.length + f0.1.length := rfl
    omega
  have n : S ≠ [] := fun z => by
    have a : Shuf e0.1 f0.1 (e0.1 ++ f0.1) := Shuf.app _ _
    have := inS he0 hf0 (w := e0.1 ++ f0.1) List.length_append ((cf_shuf _ _ _ List.length_append).mpr a)
    rw [z] at this
    exact List.not_mem_nil this
  obtain ⟨W, hW, last⟩ := last_of n
  obtain ⟨e, he, hW2⟩ := List.mem_flatMap.mp hW
  obtain ⟨f, hf, hW3⟩ := List.mem_flatMap.mp hW2
  have hW4 := (List.mem_filter.mp hW3).2
  rw [Bool.and_eq_true, decide_eq_true_eq, decide_eq_true_eq] at hW4
  obtain ⟨lW, hc⟩ := hW4
  have shuf : ∀ {e f : Wd × Int}, e ∈ ts → f ∈ us → cf e.1 f.1 W ≠ 0 → Shuf e.1 f.1 W := fun {e f} he hf hc => by
    obtain ⟨a, b⟩ := len_of he hf lW hc
    exact (cf_shuf W _ _ (by rw [lW, a, b])).mp hc
  have top : ∀ {e f : Wd × Int} {y : Wd}, e ∈ ts → f ∈ us → Shuf e.1 f.1 y → y.length = D → ¬ W < y := fun {e f y} he hf hs hy =>
    last y (inS he hf hy ((cf_shuf y _ _ hs.len).mpr hs))
  -- one pair alone has it
  have onlyE : ∀ {e f e' f' : Wd × Int}, e ∈ ts → f ∈ us → e' ∈ ts → f' ∈ us → cf e.1 f.1 W ≠ 0 → cf e'.1 f'.1 W ≠ 0 → ¬ e.1 < e'.1 := fun {e f e' f'} he hf he' hf' c c' lt => by
    obtain ⟨a, b⟩ := len_of he hf lW c
    obtain ⟨a', _⟩ := len_of he' hf' lW c'
    obtain ⟨y, s, l⟩ := (shuf he hf c).later (x := e'.1) (by rw [a, a']) lt
    exact top he' hf s (by rw [s.len, a', b]) l
  have onlyF : ∀ {e f e' f' : Wd × Int}, e ∈ ts → f ∈ us → e' ∈ ts → f' ∈ us → cf e.1 f.1 W ≠ 0 → cf e'.1 f'.1 W ≠ 0 → ¬ f.1 < f'.1 := fun {e f e' f'} he hf he' hf' c c' lt => by
    obtain ⟨a, b⟩ := len_of he hf lW c
    obtain ⟨_, b'⟩ := len_of he' hf' lW c'
    obtain ⟨y, s, l⟩ := (shuf he hf c).symm.later (x := f'.1) (by rw [b, b']) lt
    exact top he hf' s.symm (by rw [s.symm.len, a, b']) l
  have tW : tot (prod ts us) W = e.2 * f.2 * ((cf e.1 f.1 W : Nat) : Int) := by
    rw [prod_tot]
    have s1 := sum_one (f := fun e' : Wd × Int => (us.map fun f => e'.2 * f.2 * ((cf e'.1 f.1 W : Nat) : Int)).sum) (nf_pairs h1) he fun e' he' ne => by
      have : ∀ f' ∈ us, cf e'.1 f'.1 W = 0 := fun f' hf' => by
        apply Decidable.byContradiction
        intro c'
        have a := onlyE he hf he' hf' hc c'
        have b := onlyE he' hf' he hf c' hc
        rcases lt_tri e.1 e'.1 with z | z | z
        · exact a z
        · exact ne (word_eq h1 he' he z.symm)
        · exact b z
      have : (us.map fun f => e'.2 * f.2 * ((cf e'.1 f.1 W : Nat) : Int)) = us.map fun _ => (0 : Int) := List.map_congr_left fun f' hf' => by rw [this f' hf']; simp
      show (us.map fun f => e'.2 * f.2 * ((cf e'.1 f.1 W : Nat) : Int)).sum = 0
      rw [this]
      have zeros : ∀ l : List (Wd × Int), (l.map fun _ => (0 : Int)).sum = 0 := by
        intro l
        induction l with
        | nil => rfl
        | cons a l ih => rw [List.map_cons, List.sum_cons, ih]; rfl
      exact zeros us
    rw [s1]
    exact sum_one (f := fun f' : Wd × Int => e.2 * f'.2 * ((cf e.1 f'.1 W : Nat) : Int)) (nf_pairs h2) hf fun f' hf' ne => by
      have : cf e.1 f'.1 W = 0 := by
        apply Decidable.byContradiction
        intro c'
        have a := onlyF he hf he hf' hc c'
        have b := onlyF he hf' he hf c' hc
        rcases lt_tri f.1 f'.1 with z | z | z
        · exact a z
        · exact ne (word_eq h2 hf' hf z.symm)
        · exact b z
      show e.2 * f'.2 * ((cf e.1 f'.1 W : Nat) : Int) = 0
      rw [this]
      simp
  have nz : tot (nf (prod ts us)) W ≠ 0 := by
    rw [nf_tot, tW]
    refine Int.mul_ne_zero (Int.mul_ne_zero (h1.2 e he) (h2.2 f hf)) (by omega)
  obtain ⟨z, hz, r⟩ := Nf.mem_tot nz
  exact ⟨z, hz, by rw [r, lW]⟩
end Tm
namespace Tm
/-- the same, to be reckoned -/
def mxF : Nat → Wd → Wd → Terms
  | 0, u, v => [(u.reverse ++ v.reverse, 1)]
  | _ + 1, [], v => [(v.reverse, 1)]
  | _ + 1, a :: u, [] => [((a :: u).reverse, 1)]
  | n + 1, a :: u, b :: v => behind (mxF n u (b :: v)) a ++ behind (mxF n (a :: u) v) b ++ (if a = b then behind (mxF n u v) a else [])
theorem mxF_eq : ∀ (n : Nat) (u v : Wd), u.length + v.length ≤ n → mxF n u v = mx u v
  | 0, u, v, h => by
    have a : u = [] := List.length_eq_zero_iff.mp (by omega)
    have b : v = [] := List.length_eq_zero_iff.mp (by omega)
    subst a b
    rw [mx_l]
    rfl
  | n + 1, [], v, _ => by rw [mx_l]; rfl
  | n + 1, a :: u, [], _ => by rw [mx_r]; rfl
  | n + 1, a :: u, b :: v, h => by
    simp only [List.length_cons] at h
    rw [mx_c, mxF, mxF_eq n u (b :: v) (by simp only [List.length_cons]; omega), mxF_eq n (a :: u) v (by simp only [List.length_cons]; omega), mxF_eq n u v (by omega)]
def prodF (n : Nat) (ts us : Terms) : Terms := ts.flatMap fun e => us.flatMap fun f => (mxF n e.1.reverse f.1.reverse).map fun x => (x.1, e.2 * f.2 * x.2)
theorem prodF_eq {n : Nat} {ts us : Terms} (h : ∀ e ∈ ts, ∀ f ∈ us, e.1.length + f.1.length ≤ n) : prodF n ts us = prod ts us := by
  unfold prodF prod prod1
  have cong : ∀ (l : Terms) (f g : Wd × Int → Terms), (∀ x ∈ l, f x = g x) → l.flatMap f = l.flatMap g := by
    intro l f g h
    induction l with
    | nil => rfl
    | cons x l ih => rw [List.flatMap_cons, List.flatMap_cons, h x List.mem_cons_self, ih fun y hy => h y (List.mem_cons_of_mem _ hy)]
  refine cong _ _ _ fun e he => cong _ _ _ fun f hf => ?_
  rw [mxF_eq n _ _ (by rw [List.length_reverse, List.length_reverse]; exact h e he f hf)]
end Tm
set_option Elab.async false
set_option linter.all false
set_option maxRecDepth 100000
set_option maxHeartbeats 4000000
/-! Tm12: a sum's terms, listed word by word -/
namespace Tm
def pick (ts : Terms) (w : Wd) : Option (Wd × Int) := if tot ts w = 0 then none else some (w, tot ts w)
theorem tot_pick (ts : Terms) (w : Wd) : ∀ F : List Wd, F.Nodup → tot (F.filterMap (pick ts)) w = if w ∈ F then tot ts w else 0
  | [], _ => rfl
  | u :: F, nd => by
    obtain ⟨n1, n2⟩ := List.nodup_cons.mp nd
    have ih := tot_pick ts w F n2
    by_cases z : tot ts u = 0
    · rw [List.filterMap_cons_none (by unfold pick; rw [if_pos z]), ih]
      by_cases q : w = u
      · subst q
        rw [if_neg n1, if_pos List.mem_cons_self, z]
      · by_cases r : w ∈ F
        · rw [if_pos r, if_pos (List.mem_cons_of_mem _ r)]
        · rw [if_neg r, if_neg fun y => (List.mem_cons.mp y).elim q r]
    · rw [List.filterMap_cons_some (by unfold pick; rw [if_neg z]), tot_cons, ih]
      by_cases q : u = w
      · subst q
        rw [if_pos rfl, if_neg n1, if_pos List.mem_cons_self]
        show tot ts u + 0 = _
        omega
      · rw [if_neg q]
        by_cases r : w ∈ F
        · rw [if_pos r, if_pos (List.mem_cons_of_mem _ r)]; omega
        · rw [if_neg r, if_neg fun y => (List.mem_cons.mp y).elim (fun y => q y.symm) r]; rfl
theorem tot_sieve (p : Wd → Bool) (w : Wd) : ∀ ts : Terms, tot (ts.filter fun e => p e.1) w = if p w = true then tot ts w else 0
  | [] => by simp [tot]
  | e :: r => by
    have ih := tot_sieve p w r
    rw [List.filter_cons]
    by_cases h : p e.1 = true
    · rw [if_pos h, tot_cons, tot_cons, ih]
      by_cases q : e.1 = w
      · rw [if_pos q, ← q, if_pos h, if_pos h]
      · rw [if_neg q]
        by_cases g : p w = true
        · rw [if_pos g, if_pos g]
        · rw [if_neg g, if_neg g]; rfl
    · rw [if_neg h, ih, tot_cons]
      by_cases q : e.1 = w
      · rw [q] at h
        rw [if_neg h, if_neg h]
      · rw [if_neg q]
        by_cases g : p w = true
        · rw [if_pos g, if_pos g]; omega
        · rw [if_neg g, if_neg g]
theorem upto_mem {L : List Nat} {n : Nat} {w : Wd} : w ∈ Lx.upto L n ↔ w.length ≤ n ∧ ∀ c ∈ w, c ∈ L := by
  have e : ∀ n, Lx.upto L n = Gm.upto L n := by
    intro n
    induction n with
    | zero => rfl
    | succ n ih => rw [Lx.upto, Gm.upto, ih]
  constructor
  · intro h
    refine ⟨Gm.upto_len L w n (by rw [← e]; exact h), ?_⟩
    clear e
    induction n with
    | zero => rw [show Lx.upto L 0 = [[]] from rfl, List.mem_singleton] at h; subst h; simp
    | succ n ih =>
      rw [Lx.upto] at h
      rcases List.mem_append.mp h with z | z
      · exact ih z
      · exact Lx.wd_over L _ w z
  · rintro ⟨h1, h2⟩
    rw [e]
    exact Gm.mem_upto w h2 n h1
theorem wlt_nodup {F : List Wd} (h : F.Pairwise wlt) : F.Nodup := h.imp fun {a b} h (q : a = b) => wlt_irrefl b (by rw [q] at h; exact h)
theorem listed {L : List Nat} (up : L.Pairwise (· < ·)) {ts : Terms} (nf : Nf ts) (over : ∀ e ∈ ts, ∀ c ∈ e.1, c ∈ L) (d : Nat) : (Lx.upto L d).filterMap (pick ts) = ts.filter fun e => decide (e.1.length ≤ d) := by
  have pw := Fm.upto_up up d
  refine Nf.ext ⟨?_, fun e he => ?_⟩ ⟨?_, fun e he => nf.2 e (List.mem_filter.mp he).1⟩ fun w => ?_
  · rw [List.pairwise_map]
    refine List.Pairwise.filterMap (R := wlt) _ (fun a a' h b hb b' hb' => ?_) pw
    unfold pick at hb hb'
    split at hb
    · cases hb
    · split at hb'
      · cases hb'
      · cases hb
        cases hb'
        exact h
  · obtain ⟨w, _, h⟩ := List.mem_filterMap.mp he
    unfold pick at h
    split at h
    · cases h
    · cases h
      assumption
  · exact (List.pairwise_map.mp nf.1).sublist List.filter_sublist |> List.pairwise_map.mpr
  · rw [tot_pick _ _ _ (wlt_nodup pw), tot_sieve (fun w : Wd => decide (w.length ≤ d))]
    by_cases h : w.length ≤ d
    · rw [if_pos (decide_eq_true h)]
      by_cases o : ∀ c ∈ w, c ∈ L
      · rw [if_pos (upto_mem.mpr ⟨h, o⟩)]
      · rw [if_neg fun z => o (upto_mem.mp z).2]
        symm
        exact tot_none fun e he q => o (by rw [← q]; exact over e he)
    · rw [if_neg fun z => h (upto_mem.mp z).1, if_neg (by simpa using h)]
end Tm
set_option Elab.async false
set_option linter.all false
set_option maxRecDepth 100000
set_option maxHeartbeats 4000000
/-! Tm14: first pairs of texts at which two worths part -/
namespace Tm
open Mx
/-- pairs of texts in their order: by the letters of both, then by the first, then by the second -/
def plt (x y : Wd × Wd) : Prop := x.1.length + x.2.length < y.1.length + y.2.length ∨ (x.1.length + x.2.length = y.1.length + y.2.length ∧ (x.1.length < y.1.length ∨ (x.1.length = y.1.length ∧ (x.1 < y.1 ∨ (x.1 = y.1 ∧ x.2 < y.2)))))
instance (x y : Wd × Wd) : Decidable (plt x y) := by unfold plt; infer_instance
theorem plt_tri (x y : Wd × Wd) : plt x y ∨ x = y ∨ plt y x := by
  unfold plt
  rcases Nat.lt_trichotomy (x.1.length + x.2.length) (y.1.length + y.2.length) with h | h | h
  · exact .inl (.inl h)
  · rcases Nat.lt_trichotomy x.1.length y.1.length with g | g | g
    · exact .inl (.inr ⟨h, .inl g⟩)
    · rcases lt_tri x.1 y.1 with k | k | k
      · exact .inl (.inr ⟨h, .inr ⟨g, .inl k⟩⟩)
      · rcases lt_tri x.2 y.2 with j | j | j
        · exact .inl (.inr ⟨h, .inr ⟨g, .inr ⟨k, j⟩⟩⟩)
        · exact .inr (.inl (Prod.ext k j))
        · exact .inr (.inr (.inr ⟨h.symm, .inr ⟨g.symm, .inr ⟨k.symm, j⟩⟩⟩))
      · exact .inr (.inr (.inr ⟨h.symm, .inr ⟨g.symm, .inl k⟩⟩))
    · exact .inr (.inr (.inr ⟨h.symm, .inl g⟩))
  · exact .inr (.inr (.inl h))
theorem plt_le {x y : Wd × Wd} (h : plt x y) : x.1.length + x.2.length ≤ y.1.length + y.2.length := by
  unfold plt at h
  rcases h with h | ⟨h, _⟩ <;> omega
/-- the first pair of some -/
def Best (S : Wd → Wd → Prop) : Option (Wd × Wd) → Prop
  | none => ∀ u v, ¬ S u v
  | some m => S m.1 m.2 ∧ ∀ u v, S u v → ¬ plt (u, v) m
theorem Best.one {S : Wd → Wd → Prop} : ∀ {o o' : Option (Wd × Wd)}, Best S o → Best S o' → o = o'
  | none, none, _, _ => rfl
  | none, some m, h, h' => absurd h'.1 (h _ _)
  | some m, none, h, h' => absurd h.1 (h' _ _)
  | some m, some m', h, h' => by
    rcases plt_tri m m' with z | z | z
    · exact absurd z (h'.2 _ _ h.1)
    · rw [z]
    · exact absurd z (h.2 _ _ h'.1)
/-- the words of the letters that texts may have -/
def Small (w : Wd) : Prop := ∀ c ∈ w, c < 123
def Us (n : Nat) : List Wd := Lx.upto (List.range 123) n
theorem us_mem {n : Nat} {w : Wd} : w ∈ Us n ↔ w.length ≤ n ∧ Small w := by
  unfold Us Small
  rw [upto_mem]
  constructor
  · rintro ⟨a, b⟩
    exact ⟨a, fun c hc => List.mem_range.mp (b c hc)⟩
  · rintro ⟨a, b⟩
    exact ⟨a, fun c hc => List.mem_range.mpr (b c hc)⟩
theorem us_nodup (n : Nat) : (Us n).Nodup := wlt_nodup (Fm.upto_up List.pairwise_lt_range n)
/-- a double sum over words: what small words bring -/
def dsum (U : List Wd) (d : Wd → Wd → Int) (a b : Wd) : Int := (U.map fun u => ((cnt u a : Nat) : Int) * (U.map fun v => d u v * ((cnt v b : Nat) : Int)).sum).sum
theorem sum_zero {α : Type} {f : α → Int} : ∀ {l : List α}, (∀ x ∈ l, f x = 0) → (l.map f).sum = 0
  | [], _ => rfl
  | x :: l, h => by
    rw [List.map_cons, List.sum_cons, h x List.mem_cons_self, sum_zero fun y hy => h y (List.mem_cons_of_mem _ hy)]
    rfl
theorem dsum_level {n : Nat} {d : Wd → Wd → Int} {a b : Wd} (ha : a ∈ Us n) (hb : b ∈ Us n) (h : ∀ u ∈ Us n, ∀ v ∈ Us n, u.length + v.length < a.length + b.length → d u v = 0) : dsum (Us n) d a b = d a b := by
  have cz : ∀ {x y : Wd}, x.length = y.length → x ≠ y → cnt x y = 0 := fun {x y} hl ne => by rw [Gm.cnt_same y x hl.symm, if_neg ne]
  have cs : ∀ x : Wd, cnt x x = 1 := fun x => by rw [Gm.cnt_same x x rfl, if_pos rfl]
  unfold dsum
  rw [sum_one (us_nodup n) ha fun u hu ne => ?_]
  · rw [sum_one (us_nodup n) hb fun v hv ne => ?_, cs, cs]
    · show 1 * (d a b * 1) = _
      omega
    · rcases Nat.lt_trichotomy v.length b.length with z | z | z
      · rw [h a ha v hv (by omega), Int.zero_mul]
      · rw [cz z ne]
        simp
      · rw [Gm.cnt_long b v z]
        simp
  · rcases Nat.lt_trichotomy u.length a.length with z | z | z
    · rw [sum_zero fun v hv => ?_, Int.mul_zero]
      rcases Nat.lt_or_ge b.length v.length with y | y
      · rw [Gm.cnt_long b v y]
        simp
      · rw [h u hu v hv (by omega), Int.zero_mul]
    · rw [cz z ne]
      simp
    · rw [Gm.cnt_long a u z]
      simp
theorem dsum_none {n : Nat} {d : Wd → Wd → Int} {a b : Wd} (h : ∀ u ∈ Us n, ∀ v ∈ Us n, d u v = 0) : dsum (Us n) d a b = 0 := sum_zero fun u hu => by
  rw [sum_zero fun v hv => by rw [h u hu v hv, Int.zero_mul], Int.mul_zero]
/-- the first pair by words is the first pair by worths -/
theorem best_of {n : Nat} {d : Wd → Wd → Int} {D : Wd → Wd → Int} (hD : ∀ a ∈ Us n, ∀ b ∈ Us n, D a b = dsum (Us n) d a b) {S T : Wd → Wd → Prop} (hS : ∀ u v, S u v ↔ (u ∈ Us n ∧ v ∈ Us n) ∧ d u v ≠ 0)
    (T1 : ∀ u v, T u v → (u ∈ Us n ∧ v ∈ Us n) ∧ D u v ≠ 0) (T2 : ∀ u v, S u v → D u v ≠ 0 → T u v) : ∀ {o}, Best S o → Best T o
  | none, h => fun u v t => by
    obtain ⟨⟨hu, hv⟩, ne⟩ := T1 u v t
    refine ne ?_
    rw [hD u hu v hv]
    refine dsum_none fun x hx y hy => ?_
    apply Decidable.byContradiction
    intro z
    exact h x y ((hS x y).mpr ⟨⟨hx, hy⟩, z⟩)
  | some m, ⟨h1, h2⟩ => by
    obtain ⟨⟨mu, mv⟩, mne⟩ := (hS _ _).mp h1
    have low : ∀ u ∈ Us n, ∀ v ∈ Us n, u.length + v.length < m.1.length + m.2.length → d u v = 0 := fun u hu v hv hl => by
      apply Decidable.byContradiction
      intro z
      exact h2 u v ((hS u v).mpr ⟨⟨hu, hv⟩, z⟩) (.inl hl)
    refine ⟨T2 _ _ h1 ?_, fun u v t lt => ?_⟩
    · rw [hD _ mu _ mv, dsum_level mu mv low]
      exact mne
    · obtain ⟨⟨hu, hv⟩, ne⟩ := T1 u v t
      have le := plt_le lt
      rw [hD u hu v hv, dsum_level hu hv fun x hx y hy hl => low x hx y hy (by
        show _ < _
        have : u.length + v.length ≤ m.1.length + m.2.length := le
        omega)] at ne
      exact h2 u v ((hS u v).mpr ⟨⟨hu, hv⟩, ne⟩) lt
/-! ### worths as sums over all words -/
theorem worth_tot {U : List Wd} (nd : U.Nodup) (t : Wd) : ∀ {ts : Terms}, (∀ e ∈ ts, e.1 ∈ U) → worth ts t = (U.map fun v => tot ts v * ((cnt v t : Nat) : Int)).sum
  | [], _ => (sum_zero fun v _ => by show 0 * _ = (0 : Int); omega).symm
  | e :: r, h => by
    have ih := worth_tot nd t (ts := r) fun x hx => h x (List.mem_cons_of_mem _ hx)
    rw [worth_cons, ih]
    have : ∀ l : List Wd, (l.map fun v => tot (e :: r) v * ((cnt v t : Nat) : Int)).sum = (l.map fun v => (if e.1 = v then e.2 else 0) * ((cnt v t : Nat) : Int)).sum + (l.map fun v => tot r v * ((cnt v t : Nat) : Int)).sum := by
      intro l
      induction l with
      | nil => rfl
      | cons x l ih =>
        rw [List.map_cons, List.sum_cons, ih, List.map_cons, List.sum_cons, List.map_cons, List.sum_cons, tot_cons, Int.add_mul]
        omega
    rw [this]
    congr 1
    rw [sum_one nd (h e List.mem_cons_self) fun x hx ne => by rw [if_neg (fun q => ne q.symm), Int.zero_mul], if_pos rfl]
theorem front_words {u : Wd} {ts : Terms} {e : Wd × Int} (h : e ∈ front u ts) : ∃ x ∈ ts, e.1 = x.1.drop u.length := by
  obtain ⟨x, hx, q⟩ := List.mem_filterMap.mp h
  unfold frontOf at q
  split at q
  · cases q
    exact ⟨x, hx, rfl⟩
  · cases q
/-- the worth at two texts joined -/
theorem worth_dsum {n : Nat} {ts : Terms} (h : ∀ e ∈ ts, e.1.length ≤ n ∧ Small e.1) (a b : Wd) : worth ts (a ++ b) = dsum (Us n) (fun u v => tot ts (u ++ v)) a b := by
  have tk : ∀ e ∈ ts, ∀ k ≤ e.1.length, e.1.take k ∈ Us n := fun e he k hk => by
    obtain ⟨l, c⟩ := h e he
    exact us_mem.mpr ⟨by rw [List.length_take]; omega, fun x hx => c x (List.mem_of_mem_take hx)⟩
  rw [← joined (us_nodup n) tk a b]
  unfold dsum
  congr 1
  refine List.map_congr_left fun u _ => ?_
  congr 1
  rw [worth_nf, worth_tot (us_nodup n) b fun e he => ?_]
  · congr 1
    refine List.map_congr_left fun v _ => ?_
    rw [front_tot]
  · obtain ⟨x, hx, q⟩ := front_words he
    obtain ⟨l, c⟩ := h x hx
    rw [q]
    exact us_mem.mpr ⟨by rw [List.length_drop]; omega, fun y hy => c y (List.mem_of_mem_drop hy)⟩
theorem dsum_swap (U : List Wd) (f : Wd → Wd → Int) (a b : Wd) : dsum U f b a = dsum U (fun u v => f v u) a b := by
  unfold dsum
  have e1 : (U.map fun u => ((cnt u b : Nat) : Int) * (U.map fun v => f u v * ((cnt v a : Nat) : Int)).sum) = U.map fun u => ((cnt u b : Nat) : Int) * (U.map fun v => ((cnt v a : Nat) : Int) * f u v).sum := List.map_congr_left fun u _ => by
    congr 2
    exact List.map_congr_left fun v _ => Int.mul_comm _ _
  rw [e1, sum_swap (fun u => ((cnt u b : Nat) : Int)) (fun v => ((cnt v a : Nat) : Int)) f U U]
  congr 1
  refine List.map_congr_left fun u _ => ?_
  congr 2
  exact List.map_congr_left fun v _ => Int.mul_comm _ _
theorem dsum_sub (U : List Wd) (f g : Wd → Wd → Int) (a b : Wd) : dsum U f a b - dsum U g a b = dsum U (fun u v => f u v - g u v) a b := by
  unfold dsum
  have inner : ∀ (l : List Wd) (u : Wd), (l.map fun v => (f u v - g u v) * ((cnt v b : Nat) : Int)).sum = (l.map fun v => f u v * ((cnt v b : Nat) : Int)).sum - (l.map fun v => g u v * ((cnt v b : Nat) : Int)).sum := by
    intro l u
    induction l with
    | nil => rfl
    | cons x l ih =>
      rw [List.map_cons, List.sum_cons, ih, List.map_cons, List.sum_cons, List.map_cons, List.sum_cons, Int.sub_mul]
      omega
  have outer : ∀ l : List Wd, (l.map fun u => ((cnt u a : Nat) : Int) * (U.map fun v => (f u v - g u v) * ((cnt v b : Nat) : Int)).sum).sum = (l.map fun u => ((cnt u a : Nat) : Int) * (U.map fun v => f u v * ((cnt v b : Nat) : Int)).sum).sum - (l.map fun u => ((cnt u a : Nat) : Int) * (U.map fun v => g u v * ((cnt v b : Nat) : Int)).sum).sum := by
    intro l
    induction l with
    | nil => rfl
    | cons x l ih =>
      rw [List.map_cons, List.sum_cons, ih, List.map_cons, List.sum_cons, List.map_cons, List.sum_cons, inner, Int.mul_sub]
      omega
  exact (outer U).symm
/-- two texts joined either way -/
theorem turned_dsum {n : Nat} {ts : Terms} (h : ∀ e ∈ ts, e.1.length ≤ n ∧ Small e.1) (a b : Wd) : worth ts (a ++ b) - worth ts (b ++ a) = dsum (Us n) (fun u v => tot ts (u ++ v) - tot ts (v ++ u)) a b := by
  rw [worth_dsum h a b, worth_dsum h b a, dsum_swap (Us n) _ a b, dsum_sub]
end Tm
set_option Elab.async false
set_option linter.all false
set_option maxRecDepth 100000
set_option maxHeartbeats 4000000
/-! Rx8: the least of a list of data -/
namespace Rx
open PySem PySem.Spec PyProof.Rows L2 Bx
/-- min(xs), xs any list of data that are alike -/
def rMinD (K : PySem.W.Frag) : List V → Hp → VK → Prop := fun vs H Q => ∃ (a : Addr) (β : Type) (b0 : β) (bs : List β) (v : β → V) (enc : β → PyData), vs = [V.ref a] ∧ SqL K H a ((b0 :: bs).map v) ∧ (∀ b ∈ b0 :: bs, Dp K H (v b) (enc b)) ∧ PySem.W.AlikeAll ((b0 :: bs).map enc) ∧
  (∀ b ∈ b0 :: bs, (enc b).depth ≤ 8) ∧ ∀ b ∈ b0 :: bs, enc b = PySem.W.minD (enc b0) (bs.map enc) → Q (v b) H
theorem dp_all {K : PySem.W.Frag} {H : Hp} {β : Type} (v : β → V) (enc : β → PyData) : ∀ {bs : List β}, (∀ b ∈ bs, Dp K H (v b) (enc b)) → DpAll K H (bs.map v) (bs.map enc)
  | [], _ => .nil
  | b :: bs, h => .cons (h b List.mem_cons_self) (dp_all v enc fun c hc => h c (List.mem_cons_of_mem _ hc))
theorem depth_all : ∀ {ds : List PyData}, (∀ d ∈ ds, d.depth ≤ 8) → PyData.depthAll ds ≤ 8
  | [], _ => Nat.zero_le _
  | d :: ds, h => by
    have a := h d List.mem_cons_self
    have b := depth_all (ds := ds) fun e he => h e (List.mem_cons_of_mem _ he)
    show max d.depth (PyData.depthAll ds) ≤ 8
    omega
section
variable {X : Cx}
theorem cr_minD (hc : X.calm = true) (hu : X.A.units + 64 < cLine) : CallR X (.builtin "min") (rMinD X.K) := by
  intro pins s σ H vs us Q I r h
  obtain ⟨a, β, b0, bs, v, enc, rfl, hs, hd, hal, hdp, q⟩ := h
  obtain ⟨its, rv, hl, hz⟩ := I.list hs
  rw [Vals.ref1 r]
  obtain ⟨as, rs⟩ := Dp.readsAll I _ _ _ (dp_all v enc hd) rv
  have dp := depth_all (ds := (b0 :: bs).map enc) fun d hd => by
    obtain ⟨b, hb, rfl⟩ := List.mem_map.mp hd
    exact hdp b hb
  refine PySem.W.min_list_data (I.ok.hd hc) hl.isList (vs := its.toArray) (by simpa using rs) hal (by
    have : PyData.depthAll (enc b0 :: bs.map enc) ≤ 8 := dp
    show X.A.units + 1 + PyData.depthAll (enc b0 :: bs.map enc) < cLine
    omega) fun i u h' tk ys hi ru hk => ?_
  have hi' : its[i]? = some u := by simpa using hi
  have il : i < (b0 :: bs).length := by
    have := rv.length
    rw [List.length_map] at this
    rw [this]
    exact (List.getElem?_eq_some_iff.mp hi').1
  have hb : (b0 :: bs)[i]? = some (b0 :: bs)[i] := List.getElem?_eq_getElem il
  have bm : (b0 :: bs)[i] ∈ b0 :: bs := List.getElem_mem il
  generalize (b0 :: bs)[i] = b at hb bm
  obtain ⟨u2, hu2, rel⟩ := rv.get (show ((b0 :: bs).map v)[i]? = some (v b) by rw [List.getElem?_map, hb]; rfl)
  rw [hi'] at hu2
  cases hu2
  obtain ⟨zs, rb⟩ := Dp.reads I _ _ _ (hd b bm) rel
  have e := (reads_det (fun b o h _ => hk b o h) rb ru).1
  exact ⟨v b, H, I.kept hk, rel, q b bm e.symm⟩
/-- what the least is: no other one is less -/
theorem minD_least {β : Type} (enc : β → PyData) {lt : β → β → Prop} [DecidableRel lt] (hlt : ∀ x y, PySem.W.dataLt (enc x) (enc y) = decide (lt x y)) (irr : ∀ x, ¬ lt x x) (asym : ∀ x y, lt x y → ¬ lt y x) (ntr : ∀ x y z, ¬ lt x y → ¬ lt y z → ¬ lt x z) :
    ∀ (bs : List β) (b0 : β), ∃ m ∈ b0 :: bs, PySem.W.minD (enc b0) (bs.map enc) = enc m ∧ ∀ c ∈ b0 :: bs, ¬ lt c m
  | [], b0 => ⟨b0, List.mem_cons_self, rfl, fun c hc => by rw [List.mem_singleton.mp hc]; exact irr b0⟩
  | b :: bs, b0 => by
    have step : PySem.W.minD (enc b0) ((b :: bs).map enc) = PySem.W.minD (if lt b b0 then enc b else enc b0) (bs.map enc) := by
      unfold PySem.W.minD
      rw [List.map_cons, List.foldl_cons, hlt]
      by_cases h : lt b b0
      · rw [decide_eq_true h, if_pos rfl, if_pos h]
      · rw [decide_eq_false h, if_neg Bool.false_ne_true, if_neg h]
    rw [step]
    by_cases h : lt b b0
    · rw [if_pos h]
      obtain ⟨m, hm, e, all⟩ := minD_least enc hlt irr asym ntr bs b
      refine ⟨m, List.mem_cons_of_mem _ hm, e, fun c hc => ?_⟩
      rcases List.mem_cons.mp hc with z | z
      · rw [z]
        intro y
        exact ntr b0 b m (asym b b0 h) (all b List.mem_cons_self) y
      · exact all c z
    · rw [if_neg h]
      obtain ⟨m, hm, e, all⟩ := minD_least enc hlt irr asym ntr bs b0
      refine ⟨m, ?_, e, fun c hc => ?_⟩
      · rcases List.mem_cons.mp hm with z | z
        · rw [z]; exact List.mem_cons_self
        · exact List.mem_cons_of_mem _ (List.mem_cons_of_mem _ z)
      · rcases List.mem_cons.mp hc with z | z
        · rw [z]; exact all b0 List.mem_cons_self
        · rcases List.mem_cons.mp z with z | z
          · rw [z]
            exact ntr b b0 m h (all b0 List.mem_cons_self)
          · exact all c (List.mem_cons_of_mem _ z)
end
end Rx
set_option Elab.async false
set_option linter.all false
set_option maxRecDepth 100000
set_option maxHeartbeats 4000000
/-! Nd3: dicts made of lists -/
namespace Nd
open PySem PySem.Spec PyProof.Rows L2 Evl Bx
/-- {.. for x in l} -/
theorem dc_list {K : PySem.W.Frag} {a : Addr} {zs : List V} {g : TG} {tt : TT} {tk tv : TE} {vs : List Nat} {σ : L2.St} {H1 : Hp} {D : Addr} {Qd : Hp → Prop} (Pv : Nat → Hp → Prop) (h0 : Pv 0 (upd H1 D (.dK []))) (hl : ∀ i H, i ≤ zs.length → Pv i H → SqL K H a zs)
    (step : ∀ i x H, zs[i]? = some x → Pv i H → g x (wipe σ vs) H fun σ2 H2 => wipe σ2 vs = wipe σ vs ∧ tt σ2 H2 fun b H3 =>
      if b = true then tk σ2 H3 fun y H4 => tv σ2 H4 fun z H5 => ∃ kvs k, y = kV k ∧ H5 D = some (.dK kvs) ∧ kvs.length < sizeLine ∧ Pv (i + 1) (upd H5 D (.dK (putK kvs k z))) else Pv (i + 1) H3) (done : ∀ H, Pv zs.length H → Qd H) :
    ∃ W : Nat → Nat → Hp → Prop, (∃ m, W 0 m (upd H1 D (.dK []))) ∧ ∀ i m H, W i m H →
      ((Itl K a).stop i H ∧ Qd H) ∨ ((Itl K a).go i H ∧ ∃ Nx : Hp → Prop, (∀ H', Nx H' → ∃ m', m' < m ∧ W (i + 1) m' H') ∧ ∀ x H', (Itl K a).yld i H x H' → g x (wipe σ vs) H' fun σ2 H2 => wipe σ2 vs = wipe σ vs ∧ tt σ2 H2 fun b H3 =>
        if b = true then tk σ2 H3 fun y H4 => tv σ2 H4 fun z H5 => ∃ kvs k, y = kV k ∧ H5 D = some (.dK kvs) ∧ kvs.length < sizeLine ∧ Nx (upd H5 D (.dK (putK kvs k z))) else Nx H3) := by
  refine ⟨fun i m H => m = zs.length - i ∧ i ≤ zs.length ∧ Pv i H, ⟨zs.length, by simp, Nat.zero_le _, h0⟩, ?_⟩
  rintro i m H ⟨rfl, hi, p⟩
  have have_ := hl i H hi p
  by_cases more : i < zs.length
  · refine .inr ⟨⟨zs, zs[i], have_, by simp [more]⟩, Pv (i + 1), fun H' p' => ⟨zs.length - (i + 1), by omega, rfl, more, p'⟩, fun x H' y => ?_⟩
    obtain ⟨e, y⟩ := y
    subst e
    exact step i x _ (y zs have_) p
  · have e : i = zs.length := by omega
    subst e
    exact .inl ⟨⟨zs, have_, Nat.le_refl _⟩, done H p⟩
end Nd
set_option Elab.async false
set_option linter.all false
set_option maxRecDepth 100000
set_option maxHeartbeats 4000000
namespace K15
open PySem PySem.Spec PyProof.Rows L2 Evl Bx
section
variable {P : Program} {w : World} {K : PySem.W.Frag} {mg : Str → Option Value} {base : Heap}
def sp_numbers_of (T : Tx K mg) : Sp := fun vs H Q _ => ∃ v ts, vs = [v] ∧ SumAt T H v ts ∧ Tm.Nf ts ∧ ts.length ≤ 90000 ∧ ∀ d H', Ex H H' → H d = none → H' d = some (.dK (Nd.enc V.int ts)) → Q (.ref d) H'

/-! ### the first of some pairs -/
def prV2 (x : Tm.Wd × Tm.Wd) : List V := [tx x.1, tx x.2]
def rank (x : Tm.Wd × Tm.Wd) : PyData := .tuple [.int ((x.1.length : Int) + (x.2.length : Int)), .int (x.1.length : Int), .str (mk x.1), .int (x.2.length : Int), .str (mk x.2)]
theorem rank_lt (x y : Tm.Wd × Tm.Wd) : PySem.W.dataLt (rank x) (rank y) = decide (Tm.plt x y) := by
  have ii : ∀ a b : Int, PyData.eqv (.int a) (.int b) = decide (a = b) := fun a b => by
    show (a == b) = _
    by_cases h : a = b
    · rw [h, decide_eq_true rfl]; exact beq_self_eq_true _
    · rw [decide_eq_false h]; exact beq_eq_false_iff_ne.mpr h
  unfold rank
  rw [PySem.W.dataLt_tuple, PySem.W.dataLt_cons (by simp [PySem.W.alike]), PySem.W.dataLt_cons (by simp [PySem.W.alike]), PySem.W.dataLt_cons (by simp [PySem.W.alike]), PySem.W.dataLt_cons (by simp [PySem.W.alike]), PySem.W.dataLt_cons (by simp [PySem.W.alike])]
  rw [ii, ii, ii, eqv_str, eqv_str, PySem.W.dataLt_int, PySem.W.dataLt_int, PySem.W.dataLt_int, PySem.W.dataLt_str, PySem.W.dataLt_str, mk_list, mk_list, mk_list, mk_list]
  rw [PyProof.Rows.lex_irrefl]
  unfold Tm.plt
  by_cases h1 : (x.1.length : Int) + (x.2.length : Int) = (y.1.length : Int) + (y.2.length : Int)
  · by_cases h2 : (x.1.length : Int) = (y.1.length : Int)
    · have g1 : x.1.length + x.2.length = y.1.length + y.2.length := by omega
      have g2 : x.1.length = y.1.length := by omega
      have g3 : x.2.length = y.2.length := by omega
      by_cases h3 : x.1 = y.1
      · by_cases h5 : x.2 = y.2
        · simp [h1, h2, h3, h5, List.lt_irrefl]
        · simp [h3, h5, g1, g2, g3, List.lt_irrefl]
      · simp [h3, g1, g2, g3]
    · have g1 : x.1.length + x.2.length = y.1.length + y.2.length := by omega
      have g2 : x.1.length ≠ y.1.length := by omega
      simp [h1, h2, g1, g2]
  · have g1 : x.1.length + x.2.length ≠ y.1.length + y.2.length := by omega
    simp only [h1, decide_false, Bool.false_eq_true, if_false]
    refine decide_eq_decide.mpr ⟨fun h => .inl (by omega), fun h => h.elim (fun h => by omega) fun h => absurd h.1 g1⟩
theorem plt_irr (x : Tm.Wd × Tm.Wd) : ¬ Tm.plt x x := fun h => by
  unfold Tm.plt at h
  rcases h with h | ⟨_, h | ⟨_, h | ⟨_, h⟩⟩⟩
  · omega
  · omega
  · exact List.lt_irrefl _ h
  · exact List.lt_irrefl _ h
theorem plt_trans {x y z : Tm.Wd × Tm.Wd} (h : Tm.plt x y) (g : Tm.plt y z) : Tm.plt x z := by
  unfold Tm.plt at *
  rcases h with h | ⟨e1, h⟩
  · rcases g with g | ⟨e2, g⟩
    · exact .inl (by omega)
    · exact .inl (by omega)
  · rcases g with g | ⟨e2, g⟩
    · exact .inl (by omega)
    · refine .inr ⟨by omega, ?_⟩
      rcases h with h | ⟨e3, h⟩
      · rcases g with g | ⟨e4, g⟩
        · exact .inl (by omega)
        · exact .inl (by omega)
      · rcases g with g | ⟨e4, g⟩
        · exact .inl (by omega)
        · refine .inr ⟨by omega, ?_⟩
          rcases h with h | ⟨e5, h⟩
          · rcases g with g | ⟨e6, g⟩
            · exact .inl (List.lt_trans h g)
            · exact .inl (by rw [← e6]; exact h)
          · rcases g with g | ⟨e6, g⟩
            · exact .inl (by rw [e5]; exact g)
            · exact .inr ⟨e5.trans e6, List.lt_trans h g⟩
theorem plt_asym {x y : Tm.Wd × Tm.Wd} (h : Tm.plt x y) : ¬ Tm.plt y x := fun g => plt_irr x (plt_trans h g)
theorem plt_ntr {x y z : Tm.Wd × Tm.Wd} (h : ¬ Tm.plt x y) (g : ¬ Tm.plt y z) : ¬ Tm.plt x z := fun q => by
  rcases Tm.plt_tri x y with a | a | a
  · exact h a
  · exact g (a ▸ q)
  · exact g (plt_trans a q)
def rV (x : Tm.Wd × Tm.Wd) : List V := [.int ((x.1.length : Int) + (x.2.length : Int)), .int (x.1.length : Int), tx x.1, .int (x.2.length : Int), tx x.2]
theorem dp_rank {H : Hp} {q : Addr} {x : Tm.Wd × Tm.Wd} (h : SqT K H q (rV x)) : Dp K H (.ref q) (rank x) := .tup h (.cons (.int _) (.cons (.int _) (.cons (.str _) (.cons (.int _) (.cons (.str _) .nil)))))
/-- a pair of texts, or None -/
def PairAt (K : PySem.W.Frag) (H : Hp) (z : V) : Option (Tm.Wd × Tm.Wd) → Prop
  | none => z = .non
  | some m => ∃ p, z = .ref p ∧ SqT K H p (prV2 m)
theorem PairAt.ex {H H' : Hp} {z : V} : ∀ {o : Option (Tm.Wd × Tm.Wd)}, PairAt K H z o → Ex H H' → PairAt K H' z o
  | none, h, _ => h
  | some _, ⟨p, e, h⟩, x => ⟨p, e, ex_t x h⟩
def sp_first_pair (K : PySem.W.Frag) : Sp := fun vs H Q _ => ∃ (a : Addr) (us : List V) (ps : List (Tm.Wd × Tm.Wd)), vs = [.ref a] ∧ SqL K H a us ∧ Nd.TW K H prV2 us ps ∧ (∀ x ∈ ps, x.1.length ≤ 1000 ∧ x.2.length ≤ 1000) ∧ ps.length ≤ 90000 ∧
  ∀ o z H', Tm.Best (fun u v => (u, v) ∈ ps) o → Ex H H' → PairAt K H' z o → Q z H'
theorem ok__first_pair (T : Tx K mg) : FnOk P w K mg base CX0 1 T.a__first_pair T.fd__first_pair ["pairs"] (sp_first_pair K) := by
  refine T.F__first_pair.ok sc__first_pair (fun vs H Q E h => ?_) (fun cdv A outer s H vs Q E hr h => ?_)
  · obtain ⟨_, _, _, rfl, _⟩ := h
    rfl
  · obtain ⟨a, us, ps, rfl, hS, hT, hl, few, q⟩ := h
    refine ⟨_, (pss_cons (ps_if (pt_not (pt_truth (pv 0) (by intro _; rfl))) (pss_one (ps_ret pe_non)) pss_nil) (pss_cons (ps_setLc (i := 1) (own := [("one", 2), ("other", 3)]) (g := (gTup K 2 (gCons (gName 2) (gCons (gName 3) gNil)))) (tt := tYes) (by rfl) sc__first_pair.nd rfl rfl (sw_true rfl rfl rfl (by decide +kernel)) (pi_list (pv 0)) (blkOk_by (own := [("one", 2), ("other", 3)]) (N := N__first_pair) (sc := defScope s__first_pair) (by decide +kernel)) (fun _ _ _ _ _ => (pg_tup (by rfl) (pgs_cons (pg_name (i := 2) sc__first_pair.nd rfl (by first | exact Or.inl rfl | exact Or.inr rfl)) (pgs_cons (pg_name (i := 3) sc__first_pair.nd rfl (by first | exact Or.inl rfl | exact Or.inr rfl)) pgs_nil)))) (fun _ _ _ _ _ => pts_nil) (fun _ _ _ _ _ => (pe_tup (pa_cons (pe_op op_add (pe_callB call_len_str (by rfl) T.n_len (by decide +kernel) (pa_cons (pv 2) pa_nil)) (pe_callB call_len_str (by rfl) T.n_len (by decide +kernel) (pa_cons (pv 3) pa_nil))) (pa_cons (pe_callB call_len_str (by rfl) T.n_len (by decide +kernel) (pa_cons (pv 2) pa_nil)) (pa_cons (pv 2) (pa_cons (pe_callB call_len_str (by rfl) T.n_len (by decide +kernel) (pa_cons (pv 3) pa_nil)) (pa_cons (pv 3) pa_nil)))))))) (pss_cons (ps_asg (pe_callB (Rx.cr_minD rfl hr.units) (by rfl) T.n_min (by decide +kernel) (pa_cons (pv 1) pa_nil)) (pg_tup (by rfl) (pgs_cons (pg_name (i := 4) sc__first_pair.nd rfl (by first | exact Or.inl rfl | exact Or.inr rfl)) (pgs_cons (pg_name (i := 4) sc__first_pair.nd rfl (by first | exact Or.inl rfl | exact Or.inr rfl)) (pgs_cons (pg_name (i := 2) sc__first_pair.nd rfl (by first | exact Or.inl rfl | exact Or.inr rfl)) (pgs_cons (pg_name (i := 4) sc__first_pair.nd rfl (by first | exact Or.inl rfl | exact Or.inr rfl)) (pgs_cons (pg_name (i := 3) sc__first_pair.nd rfl (by first | exact Or.inl rfl | exact Or.inr rfl)) pgs_nil))))))) (pss_one (ps_ret (pe_tup (pa_cons (pv 2) (pa_cons (pv 3) pa_nil)))))))), ?_⟩
    have ul := hT.len
    refine ⟨_, rfl, !us.isEmpty, .inl ⟨us, hS, rfl⟩, ?_⟩
    cases hps : ps with
    | nil =>
      rw [hps] at ul
      have u0 : us = [] := List.length_eq_zero_iff.mp ul
      rw [u0]
      refine iteT (q none .non H (by rw [hps]; exact fun u v h => absurd h List.not_mem_nil) (Ex.refl H) rfl)
    | cons p0 ps0 =>
      have u1 : us.isEmpty = false := by
        cases us with
        | nil => rw [hps] at ul; cases ul
        | cons _ _ => rfl
      rw [u1]
      refine iteF ?_
      dsimp only [tNext, tSeq, tAsg, tC, gName]
      refine ⟨_, rfl, a, rfl, ⟨_, hS⟩, fun D nD => ?_⟩
      refine lc_list (xs := us) (fun i H2 => ∃ qs : List (Addr × (Tm.Wd × Tm.Wd)), Ex H H2 ∧ H2 D = some (.lst (qs.map fun b => V.ref b.1)) ∧ qs.map (·.2) = ps.take i ∧ ∀ b ∈ qs, SqT K H2 b.1 (rV b.2)) ⟨[], ex_upd nD, upd_same, rfl, fun b hb => absurd hb List.not_mem_nil⟩ (fun i H2 _ ⟨_, e2, _⟩ => ex_l e2 hS) (fun i v H2 hv ⟨qs, e2, hD, hq, hr2⟩ => ?_) (fun H2 ⟨qs, e2, hD, hq, hr2⟩ => ?_)
      · obtain ⟨e, z, he, rfl, hz⟩ := hT.at hv
        have il : i < ps.length := (List.getElem?_eq_some_iff.mp he).1
        obtain ⟨b1, b2⟩ := hl e (List.mem_of_getElem? he)
        refine ⟨z, _, rfl, ex_t e2 hz, rfl, _, _, rfl, _, _, rfl, rfl, rfl, ?_⟩
        dsimp only [tYes]
        refine iteT ⟨_, rfl, mk e.1, rfl, by rw [mk_len]; exact sz_of (by omega), _, rfl, mk e.2, rfl, by rw [mk_len]; exact sz_of (by omega), _, _, rfl, rfl, _, rfl, mk e.1, rfl, by rw [mk_len]; exact sz_of (by omega), _, rfl, _, rfl, mk e.2, rfl, by rw [mk_len]; exact sz_of (by omega), _, rfl, ?_⟩
        rw [mk_len, mk_len]
        refine ⟨sz_of (by show 5 ≤ 100000; omega), fun t nt => ?_⟩
        have Dt : D ≠ t := ex_ne hD nt
        have ql : qs.length = i := by
          have := congrArg List.length hq
          rw [List.length_map, List.length_take] at this
          omega
        refine ⟨_, by rw [upd_ne Dt]; exact hD, by rw [List.length_map]; exact sz_lt (by omega), qs ++ [(t, e)], (e2.trans (ex_upd nt)).mut nD, by rw [upd_same, List.map_append]; rfl, by rw [List.map_append, hq, take_one he]; rfl, fun b hb => ?_⟩
        refine sqT_upL (by rw [upd_ne Dt]; exact hD) ?_
        rcases List.mem_append.mp hb with y | y
        · exact ex_t (ex_upd nt) (hr2 b y)
        · rw [List.mem_singleton.mp y]
          exact .inl (.inl upd_same)
      · rw [ul, List.take_length] at hq
        cases hqs : qs with
        | nil => rw [hqs, hps] at hq; cases hq
        | cons b0 qs0 =>
          rw [hqs] at hD hr2 hq
          obtain ⟨m, hm, me, mall⟩ := Rx.minD_least (fun b : Addr × (Tm.Wd × Tm.Wd) => rank b.2) (lt := fun x y => Tm.plt x.2 y.2) (fun x y => rank_lt x.2 y.2) (fun x => plt_irr x.2) (fun x y h => plt_asym h) (fun x y z h g => plt_ntr h g) qs0 b0
          refine ⟨_, rfl, D, _, b0, qs0, fun b => .ref b.1, fun b => rank b.2, rfl, .inl (.inl hD), fun b hb => dp_rank (hr2 b hb), ⟨fun x hx y hy => ?_, fun x hx => ?_⟩, fun b _ => by show max 0 (max 0 (max 0 (max 0 (max 0 0)))) + 1 ≤ 8; decide, fun b hb he => ?_⟩
          · obtain ⟨b, _, rfl⟩ := List.mem_map.mp hx
            obtain ⟨c, _, rfl⟩ := List.mem_map.mp hy
            unfold rank
            simp [PySem.W.alike, PySem.W.alikeAll]
          · obtain ⟨b, _, rfl⟩ := List.mem_map.mp hx
            unfold rank
            simp
          · rw [me] at he
            have ball : ∀ c ∈ b0 :: qs0, ¬ Tm.plt c.2 b.2 := fun c hc lt => by
              have h1 := mall c hc
              have h2 : b.2 = m.2 := by
                have h3 : Tm.plt b.2 m.2 ∨ b.2 = m.2 ∨ Tm.plt m.2 b.2 := Tm.plt_tri _ _
                rcases h3 with z | z | z
                · exact absurd z (mall b hb)
                · exact z
                · have := rank_lt m.2 b.2
                  have he' : rank b.2 = rank m.2 := he
                  rw [he', rank_lt, decide_eq_false (plt_irr _), decide_eq_true z] at this
                  cases this
              exact h1 (h2 ▸ lt)
            have hb2 := hr2 b hb
            refine ⟨b.1, _, rfl, hb2, rfl, _, _, rfl, _, _, rfl, _, _, rfl, _, _, rfl, _, _, rfl, rfl, ?_⟩
            refine ⟨_, rfl, _, rfl, sz_of (by show 2 ≤ 100000; omega), fun t nt => ?_⟩
            refine q (some b.2) (.ref t) _ ⟨?_, fun u v huv lt => ?_⟩ (e2.trans (ex_upd nt)) ⟨t, rfl, .inl (.inl upd_same)⟩
            · show (b.2.1, b.2.2) ∈ ps
              rw [← hq]
              exact List.mem_map_of_mem (f := (·.2)) hb
            · rw [← hq] at huv
              obtain ⟨c, hc, e⟩ := List.mem_map.mp huv
              rw [← e] at lt
              exact ball c hc lt
end
end K15
set_option Elab.async false
set_option linter.all false
set_option maxRecDepth 100000
set_option maxHeartbeats 4000000
/-! Nd4: any walk of a comprehension, also within another -/
namespace Nd
open PySem PySem.Spec PyProof.Rows L2 Evl Bx
theorem walk_range {lo : Int} {n : Nat} {S : Hp} {Qd : Hp → Prop} {B : (Hp → Prop) → V → Hp → Prop} (Pv : Nat → Hp → Prop) (h0 : Pv 0 S) (hs : ∀ i H, i < n → Pv i H → B (Pv (i + 1)) (.int (lo + i)) H) (hd : ∀ H, Pv n H → Qd H) :
    ∃ W : Nat → Nat → Hp → Prop, (∃ m, W 0 m S) ∧ ∀ i m H, W i m H → ((Itr lo n).stop i H ∧ Qd H) ∨ ((Itr lo n).go i H ∧ ∃ Nx : Hp → Prop, (∀ H', Nx H' → ∃ m', m' < m ∧ W (i + 1) m' H') ∧ ∀ x H', (Itr lo n).yld i H x H' → B Nx x H') := by
  refine ⟨fun i m H => m = n - i ∧ i ≤ n ∧ Pv i H, ⟨n, by simp, Nat.zero_le _, h0⟩, ?_⟩
  rintro i m H ⟨rfl, hi, p⟩
  rcases Nat.lt_or_ge i n with hlt | hge
  · refine .inr ⟨hlt, Pv (i + 1), fun H' p' => ⟨n - (i + 1), by omega, rfl, hlt, p'⟩, ?_⟩
    rintro x H' ⟨rfl, rfl⟩
    exact hs i _ hlt p
  · obtain rfl : i = n := by omega
    exact .inl ⟨hge, hd H p⟩
theorem walk_list {K : PySem.W.Frag} {a : Addr} {xs : List V} {S : Hp} {Qd : Hp → Prop} {B : (Hp → Prop) → V → Hp → Prop} (Pv : Nat → Hp → Prop) (h0 : Pv 0 S) (hl : ∀ i H, i ≤ xs.length → Pv i H → SqL K H a xs) (hs : ∀ i x H, xs[i]? = some x → Pv i H → B (Pv (i + 1)) x H) (hd : ∀ H, Pv xs.length H → Qd H) :
    ∃ W : Nat → Nat → Hp → Prop, (∃ m, W 0 m S) ∧ ∀ i m H, W i m H → ((Itl K a).stop i H ∧ Qd H) ∨ ((Itl K a).go i H ∧ ∃ Nx : Hp → Prop, (∀ H', Nx H' → ∃ m', m' < m ∧ W (i + 1) m' H') ∧ ∀ x H', (Itl K a).yld i H x H' → B Nx x H') := by
  refine ⟨fun i m H => m = xs.length - i ∧ i ≤ xs.length ∧ Pv i H, ⟨xs.length, by simp, Nat.zero_le _, h0⟩, ?_⟩
  rintro i m H ⟨rfl, hi, p⟩
  have q := hl i H hi p
  rcases Nat.lt_or_ge i xs.length with hlt | hge
  · refine .inr ⟨⟨xs, xs[i], q, by simp [hlt]⟩, Pv (i + 1), fun H' p' => ⟨xs.length - (i + 1), by omega, rfl, hlt, p'⟩, ?_⟩
    rintro x H' ⟨rfl, y⟩
    exact hs i x _ (y xs q) p
  · obtain rfl : i = xs.length := by omega
    exact .inl ⟨⟨xs, q, hge⟩, hd H p⟩
end Nd
set_option Elab.async false
set_option linter.all false
set_option maxRecDepth 100000
set_option maxHeartbeats 4000000
/-! Nt: walks over the items of a dict whose keys are tuples -/
namespace Nt
open PySem PySem.Spec PyProof.Rows L2 Evl Bx
/-- the pairs of a locked dict of tuples -/
def Ipt (d : Addr) (lk : Obj) (rows : List (List Key × V)) : It :=
  ⟨fun n G => G d = some (.frz lk (.dT rows)) ∧ n < rows.length, fun n G x G' => ∃ (pr q : Addr) (k : List Key) (v : V), rows[n]? = some (k, v) ∧ x = .ref pr ∧ G q = some (.tup (k.map kV)) ∧ G pr = none ∧ G' = upd G pr (.tup [.ref q, v]), fun n G => G d = some (.frz lk (.dT rows)) ∧ rows.length ≤ n⟩
section
variable {X : Cx} {pins : List (Addr × Obj)} {σ : L2.St} {H : Hp} {s : Shared} {d : Addr} {lk : Obj}
theorem locked {rows : List (List Key × V)} (I : Inv X pins σ H s) (h : H d = some (.frz lk (.dT rows))) :
    (d == sysModules) = false ∧ ∃ es ep, lk.data = .dict es ep ∧ s.heap.DictRaw d es ep ∧ es.size = rows.length ∧ ∀ n (hn : n < es.size) k v, rows[n]? = some (k, v) → ∃ q, es[n].key = .ref q ∧ H q = some (.tup (k.map kV)) ∧ RelV v es[n].val := by
  obtain ⟨hd, z, hs, xs, pr, o', es, ep, ho, hx, hdt, he, _⟩ := I.hok d _ h
  rw [hd] at ho
  cases ho
  have l1 : es.size = xs.length := size_of_entries he
  have l2 : rows.length = xs.length := Paired.length pr
  refine ⟨hs, es, ep, hdt, ⟨lk, hd, hx, hdt⟩, by omega, fun n hn k v e => ?_⟩
  obtain ⟨b, hb, e1, e2, e3⟩ := paired_get pr e
  have q := entry_at he n
  rw [hb, Array.getElem?_eq_getElem hn] at q
  have q2 : es[n] = entryOfKey (tupleKind (mixKind X.prog X.w)) b := by simpa using q
  rw [q2]
  exact ⟨b.2.1, rfl, e2, e3⟩
end
section
variable {P : Program} {w : World} {K : PySem.W.Frag} {d : Addr} {lk : Obj} {es : Array DictEntry} {ep : Nat}
theorem turn_pairs {rows : List (List Key × V)} {elts : List Expr} {cx : Nat} {ps : Pos} (it : Addr) (hod : lk.data = .dict es ep) :
    Turn P w K (.Tuple elts cx ps) (Ipt d lk rows) [it] it (fun n h => ∃ ok ov, IsItemIter h it d n rows.length ep ok ov) where
  mem := by simp
  obj := by
    intro n h st b hb
    obtain rfl : b = it := by simpa using hb
    obtain ⟨ok, ov, e⟩ := st
    exact ⟨_, e, fun v z => nomatch z⟩
  keep := by
    intro n h h' st k
    obtain ⟨ok, ov, e⟩ := st
    exact ⟨ok, ov, k it (by simp) _ e⟩
  item := by
    intro X e1 e2 e3 hc n pins s σ H E I hf st hg
    subst e1 e2 e3
    obtain ⟨hd, hn⟩ := hg
    obtain ⟨hs, es', ep', hdt, raw, hsz, ent⟩ := locked I hd
    obtain ⟨rfl, rfl⟩ := dict_ep hod hdt
    have hn' : n < es'.size := by omega
    have hkv : rows[n]? = some (rows[n].1, rows[n].2) := List.getElem?_eq_getElem hn
    obtain ⟨q, hq1, hq2, rv⟩ := ent n hn' _ _ hkv
    obtain ⟨ok, ov, he⟩ := st
    rw [← hsz] at he
    have hlt : it < s.heap.objs.size := Heap.lt_size he
    refine wpAny_pyNext_items_item_raw he raw hn' fun h' ho hT hz hk => ?_
    refine ⟨_, rfl, wpAny_letOwnedTupleGo_items (s := { s with heap := h' }) ho fun h'' he' sb => ?_⟩
    have hT2 : h''.get? s.heap.objs.size = some { cls := .type "tuple", data := .seq #[es'[n].key, es'[n].val] } := (sb.2 _ (Nat.ne_of_gt hlt)).trans hT
    have new : ObjOk X.prog X.w (upd H s.heap.objs.size (.tup [.ref q, rows[n].2])) h'' s.heap.objs.size (.tup [.ref q, rows[n].2]) :=
      ⟨by show 2 ≤ sizeLine; decide, [es'[n].key, es'[n].val], .cons hq1 (.cons rv .nil), ⟨_, hT2, rfl, _, rfl⟩⟩
    have I1 := I.turnedNew (t' := s.toks) (ch := [it]) (fun b ob hb e => (sb.2 b (by simpa using hb)).trans (hk b ob (by simpa using hb) e)) hf (Nat.le_refl _) new
    refine ⟨.ref s.heap.objs.size, _, I1, rfl, ⟨_, q, _, _, hkv, rfl, hq2, I.hok.fresh (Nat.le_refl _), rfl⟩, ⟨es'[n].key, es'[n].val, ?_⟩, fun b hb => ?_⟩
    · rw [← hsz]; exact he'
    · obtain rfl : b = it := by simpa using hb
      rw [upd_ne (Nat.ne_of_lt hlt)]
      exact (hf b (by simp)).1
  done := by
    intro X e1 e2 e3 hc n pins s σ H E I hf st hg
    subst e1 e2 e3
    obtain ⟨hd, hn⟩ := hg
    obtain ⟨f0, f1, f2, f3, f4, f5⟩ := hf it (by simp)
    obtain ⟨hs, es', ep', hdt, raw, hsz, ent⟩ := locked I hd
    obtain ⟨rfl, rfl⟩ := dict_ep hod hdt
    obtain ⟨ok, ov, he⟩ := st
    rw [← hsz] at he
    exact wpAny_pyNext_items_end_raw (I.ok.hd hc) he raw (by omega) fun h' eb => ⟨rfl, I.turned (t' := s.toks) (fun b ob hb e => eb b ob hb e) f0 f1 f3 f4 f5⟩
  self := by
    intro A n s Q E st h
    obtain ⟨_, _, e⟩ := st
    exact PySem.W.kcp_self e h
end
def iPairs (td : TE) : TI := fun σ H R => td σ H fun x H1 => ∃ d lk rows, x = .ref d ∧ H1 d = some (.frz lk (.dT rows)) ∧ R (Ipt d lk rows) H1
theorem pi_pairs {X : Cx} {e : Expr} {td : TE} {apos cpos : Pos} {elts : List Expr} {cx : Nat} {ps : Pos} (he : PE X e td) (hbase : attributeBase e "items" X.env (eval e X.env) = eval e X.env := by rfl) (hline : (apos.endLine == cpos.line) = true := by rfl) :
    PI X (.Tuple elts cx ps) (.Call (.Attribute e "items" apos) [] [] cpos) (iPairs td) := by
  refine ⟨fun pins s σ H R I h => ?_⟩
  refine wpAny_Call_method (T := "dict") (id := "dict.items") hbase rfl hline F.plainAttrs_dict F.slot_dict_items F.type_dict_items (thn (he.run pins s σ H _ I h) fun u s1 ⟨x, H1, I1, rx, d, lk, rows, ex, hd, q⟩ => ?_)
  subst ex
  cases rx
  obtain ⟨hs, es, ep, hdt, raw, hsz, ent⟩ := locked I1 hd
  refine ⟨raw.typeIs, ?_, ?_⟩
  · intro a e
    cases e
    obtain ⟨o, ho, hx, _⟩ := raw
    exact ⟨o, ho, hx.2.1⟩
  · have raw2 : (s1.heap.push { cls := .type "dict_items", data := .fields #[.ref d] }).DictRaw d es ep := raw.at fun o e => Heap.get?_push_of_some _ e
    have I2 : Inv X pins σ H1 { s1 with heap := s1.heap.push { cls := .type "dict_items", data := .fields #[.ref d] } } := I1.kept (t' := s1.toks) fun b ob q => Heap.get?_push_of_some _ q
    have fin : wpAny (model X.prog X.w) X.A (pyIter (.ref s1.heap.objs.size)) (PIE X pins σ (.Tuple elts cx ps) R) X.xe { s1 with heap := s1.heap.push { cls := .type "dict_items", data := .fields #[.ref d] } } := by
      refine wpAny_pyIter_items_raw (d := d) ⟨_, Heap.get?_push_size _ rfl, rfl, rfl⟩ raw2 (pi_one (tk := s1.toks) I2 _ (turn_pairs _ hdt) ⟨.none, .none, ?_⟩ q)
      rw [← hsz]
      exact Heap.get?_push_size _ rfl
    show wpAny _ _ (callWith cpos (.builtin "dict.items") [.ref d] [] []) _ X.xe s1
    exact method_meetsIn F.slot_dict_items F.entry_dict_items rfl (PySem.evalArgs_none ⟨rfl, raw.typeIs, F.args_dict_items_1 _, _, DT.meetsItems (es := es) (ep := ep) hs, ⟨raw, fin⟩⟩)
/-- for k, v in d.items() -/
theorem for_pairs {d : Addr} {lk : Obj} {rows : List (List Key × V)} {g : TG} {tb : TS} {D : Ends} {σ : L2.St} {H : Hp} (Pv : Nat → L2.St → Hp → Prop) (h0 : Pv 0 σ H) (hl : ∀ n σ H, n ≤ rows.length → Pv n σ H → H d = some (.frz lk (.dT rows)))
    (hs : ∀ n k v pr q σ H, rows[n]? = some (k, v) → Pv n σ H → H q = some (.tup (k.map kV)) → H pr = none → g (.ref pr) σ (upd H pr (.tup [.ref q, v])) fun σ2 H2 => tb { D with nx := Pv (n + 1), ct := Pv (n + 1), bk := D.nx } σ2 H2) (hd : ∀ σ H, Pv rows.length σ H → D.nx σ H) :
    ∃ W : Nat → Nat → L2.St → Hp → Prop, (∃ m, W 0 m σ H) ∧ ∀ i m σ H, W i m σ H →
      ((Ipt d lk rows).stop i H ∧ D.nx σ H) ∨ ((Ipt d lk rows).go i H ∧ ∃ N : L2.St → Hp → Prop, (∀ σ' H', N σ' H' → ∃ m', m' < m ∧ W (i + 1) m' σ' H') ∧ ∀ x H', (Ipt d lk rows).yld i H x H' → g x σ H' fun σ2 H2 => tb { D with nx := N, ct := N, bk := D.nx } σ2 H2) := by
  refine ⟨fun i m σ H => m = rows.length - i ∧ i ≤ rows.length ∧ Pv i σ H, ⟨rows.length, by simp, Nat.zero_le _, h0⟩, ?_⟩
  rintro i m σ H ⟨rfl, hi, p⟩
  have lock := hl i σ H hi p
  rcases Nat.lt_or_ge i rows.length with hlt | hge
  · refine .inr ⟨⟨lock, hlt⟩, Pv (i + 1), fun σ' H' p' => ⟨rows.length - (i + 1), by omega, rfl, hlt, p'⟩, ?_⟩
    rintro x H' ⟨pr, q, k, v, hk, rfl, hq, hn, rfl⟩
    exact hs i k v pr q σ H hk p hq hn
  · obtain rfl : i = rows.length := by omega
    exact .inl ⟨⟨lock, hge⟩, hd σ H p⟩
/-- [.. for k, v in d.items()] -/
theorem lc_pairs {d : Addr} {lk : Obj} {rows : List (List Key × V)} {g : TG} {tt : TT} {te : TE} {vs : List Nat} {σ : L2.St} {H1 : Hp} {D : Addr} {Qd : Hp → Prop} (Pv : Nat → Hp → Prop) (h0 : Pv 0 (upd H1 D (.lst []))) (hl : ∀ i H, i ≤ rows.length → Pv i H → H d = some (.frz lk (.dT rows)))
    (hs : ∀ i k v pr q H, rows[i]? = some (k, v) → Pv i H → H q = some (.tup (k.map kV)) → H pr = none → g (.ref pr) (wipe σ vs) (upd H pr (.tup [.ref q, v])) fun σ2 H2 => wipe σ2 vs = wipe σ vs ∧ tt σ2 H2 fun b H3 =>
      if b = true then te σ2 H3 fun y H4 => ∃ acc, H4 D = some (.lst acc) ∧ acc.length < sizeLine ∧ Pv (i + 1) (upd H4 D (.lst (acc ++ [y]))) else Pv (i + 1) H3) (hd : ∀ H, Pv rows.length H → Qd H) :
    ∃ W : Nat → Nat → Hp → Prop, (∃ m, W 0 m (upd H1 D (.lst []))) ∧ ∀ i m H, W i m H →
      ((Ipt d lk rows).stop i H ∧ Qd H) ∨ ((Ipt d lk rows).go i H ∧ ∃ Nx : Hp → Prop, (∀ H', Nx H' → ∃ m', m' < m ∧ W (i + 1) m' H') ∧ ∀ x H', (Ipt d lk rows).yld i H x H' → g x (wipe σ vs) H' fun σ2 H2 => wipe σ2 vs = wipe σ vs ∧ tt σ2 H2 fun b H3 =>
        if b = true then te σ2 H3 fun y H4 => ∃ acc, H4 D = some (.lst acc) ∧ acc.length < sizeLine ∧ Nx (upd H4 D (.lst (acc ++ [y]))) else Nx H3) := by
  refine ⟨fun i m H => m = rows.length - i ∧ i ≤ rows.length ∧ Pv i H, ⟨rows.length, by simp, Nat.zero_le _, h0⟩, ?_⟩
  rintro i m H ⟨rfl, hi, p⟩
  have lock := hl i H hi p
  rcases Nat.lt_or_ge i rows.length with hlt | hge
  · refine .inr ⟨⟨lock, hlt⟩, Pv (i + 1), fun H' p' => ⟨rows.length - (i + 1), by omega, rfl, hlt, p'⟩, ?_⟩
    rintro x H' ⟨pr, q, k, v, hk, rfl, hq, hn, rfl⟩
    exact hs i k v pr q H hk p hq hn
  · obtain rfl : i = rows.length := by omega
    exact .inl ⟨⟨lock, hge⟩, hd H p⟩
end Nt
set_option Elab.async false
set_option linter.all false
set_option maxRecDepth 100000
set_option maxHeartbeats 4000000
/-! Tm15: one text in the place of another: what it changes -/
namespace Tm
open Mx
/-- the cuts of a word into three parts, the middle one not empty -/
def cutsAt (w : Wd) (lo k : Nat) : List (Wd × Wd × Wd) := (List.range k).map fun j => (w.take lo, (w.take (lo + 1 + j)).drop lo, w.drop (lo + 1 + j))
def cutsUp (w : Wd) (k : Nat) : List (Wd × Wd × Wd) := (List.range k).flatMap fun lo => cutsAt w lo (w.length - lo)
def cuts3 (w : Wd) : List (Wd × Wd × Wd) := cutsUp w w.length
abbrev Row := (Wd × Wd) × Int
def gapOf (a b : Wd) (n : Int) (p : Wd) : Int := n * (((cnt p a : Nat) : Int) - ((cnt p b : Nat) : Int))
def rowsOf (a b : Wd) (e : Wd × Int) : List Row := (cuts3 e.1).map fun c => ((c.1, c.2.2), gapOf a b e.2 c.2.1)
def rows (a b : Wd) (ts : Terms) : List Row := ts.flatMap (rowsOf a b)
def sumAt (rs : List Row) (u v : Wd) : Int := (rs.map fun r => if r.1 = (u, v) then r.2 else 0).sum
theorem sumAt_app (r s : List Row) (u v : Wd) : sumAt (r ++ s) u v = sumAt r u v + sumAt s u v := by
  unfold sumAt
  rw [List.map_append, List.sum_append]
theorem sumAt_mem {rs : List Row} {u v : Wd} (h : sumAt rs u v ≠ 0) : ∃ r ∈ rs, r.1 = (u, v) := by
  apply Decidable.byContradiction
  intro z
  refine h (sum_zero fun r hr => ?_)
  rw [if_neg fun y => z ⟨r, hr, y⟩]
def bring (rs : List Row) (a b : Wd) : Int := (rs.map fun r => ((cnt r.1.1 a : Nat) : Int) * (r.2 * ((cnt r.1.2 b : Nat) : Int))).sum
theorem dsum_add (U : List Wd) (f g : Wd → Wd → Int) (a b : Wd) : dsum U (fun u v => f u v + g u v) a b = dsum U f a b + dsum U g a b := by
  have := dsum_sub U (fun u v => f u v + g u v) g a b
  have e : (fun u v => f u v + g u v - g u v) = f := by
    funext u v
    omega
  rw [e] at this
  omega
theorem dsum_rows {U : List Wd} (nd : U.Nodup) (a b : Wd) : ∀ {rs : List Row}, (∀ r ∈ rs, r.1.1 ∈ U ∧ r.1.2 ∈ U) → dsum U (sumAt rs) a b = bring rs a b
  | [], _ => sum_zero fun u _ => by
    rw [sum_zero fun v _ => by show 0 * _ = (0 : Int); omega, Int.mul_zero]
  | r :: rs, h => by
    have ih := dsum_rows nd a b (rs := rs) fun x hx => h x (List.mem_cons_of_mem _ hx)
    obtain ⟨h1, h2⟩ := h r List.mem_cons_self
    have e : sumAt (r :: rs) = fun u v => (if r.1 = (u, v) then r.2 else 0) + sumAt rs u v := by
      funext u v
      unfold sumAt
      rw [List.map_cons, List.sum_cons]
    rw [e, dsum_add, ih]
    show _ = ((r :: rs).map _).sum
    rw [List.map_cons, List.sum_cons]
    congr 1
    unfold dsum
    rw [sum_one nd h1 fun x hx ne => ?_]
    · congr 1
      rw [sum_one nd h2 fun y hy ne => ?_]
      · show (if r.1 = (r.1.1, r.1.2) then r.2 else 0) * _ = _
        rw [if_pos rfl]
      · show (if r.1 = (r.1.1, y) then r.2 else 0) * _ = _
        rw [if_neg (fun q : r.1 = (r.1.1, y) => ne (congrArg Prod.snd q).symm), Int.zero_mul]
    · rw [sum_zero fun y hy => ?_, Int.mul_zero]
      show (if r.1 = (x, y) then r.2 else 0) * _ = _
      rw [if_neg (fun q : r.1 = (x, y) => ne (congrArg Prod.fst q).symm), Int.zero_mul]
theorem sum_flat {α β : Type} (g : β → Int) (f : α → List β) : ∀ l : List α, ((l.flatMap f).map g).sum = (l.map fun x => ((f x).map g).sum).sum
  | [] => rfl
  | x :: l => by
    rw [List.flatMap_cons, List.map_append, List.sum_append, sum_flat g f l, List.map_cons, List.sum_cons]
theorem sum_subs {α : Type} (f g : α → Int) : ∀ l : List α, (l.map f).sum - (l.map g).sum = (l.map fun x => f x - g x).sum
  | [] => rfl
  | x :: l => by
    have := sum_subs f g l
    rw [List.map_cons, List.map_cons, List.map_cons, List.sum_cons, List.sum_cons, List.sum_cons]
    omega
theorem sum_scale {α : Type} (k : Int) (f : α → Int) : ∀ l : List α, k * (l.map f).sum = (l.map fun x => k * f x).sum
  | [] => Int.mul_zero k
  | x :: l => by
    rw [List.map_cons, List.sum_cons, List.map_cons, List.sum_cons, Int.mul_add, sum_scale k f l]
/-- a word that begins in the midst of a text -/
theorem mid_diff (w a b l : Wd) : ((cnt w (a ++ l) : Nat) : Int) - ((cnt w (b ++ l) : Nat) : Int) = ((List.range w.length).map fun j => (((cnt (w.take (1 + j)) a : Nat) : Int) - ((cnt (w.take (1 + j)) b : Nat) : Int)) * ((cnt (w.drop (1 + j)) l : Nat) : Int)).sum := by
  rw [cnt_cuts, cnt_cuts, sum_subs, List.range_succ_eq_map, List.map_cons, List.sum_cons, List.map_map]
  have z : ((cnt (w.take 0) a : Nat) : Int) * ((cnt (w.drop 0) l : Nat) : Int) - ((cnt (w.take 0) b : Nat) : Int) * ((cnt (w.drop 0) l : Nat) : Int) = 0 := by
    rw [List.take_zero, cnt_nil, cnt_nil]
    omega
  rw [z, Int.zero_add]
  congr 1
  refine List.map_congr_left fun j _ => ?_
  show ((cnt (w.take (j + 1)) a : Nat) : Int) * ((cnt (w.drop (j + 1)) l : Nat) : Int) - ((cnt (w.take (j + 1)) b : Nat) : Int) * ((cnt (w.drop (j + 1)) l : Nat) : Int) = _
  rw [Nat.add_comm 1 j, Int.sub_mul]
theorem one_diff (w f a b l : Wd) : ((cnt w (f ++ (a ++ l)) : Nat) : Int) - ((cnt w (f ++ (b ++ l)) : Nat) : Int) = ((List.range w.length).map fun i => ((cnt (w.take i) f : Nat) : Int) * ((List.range (w.length - i)).map fun j => (((cnt ((w.drop i).take (1 + j)) a : Nat) : Int) - ((cnt ((w.drop i).take (1 + j)) b : Nat) : Int)) * ((cnt ((w.drop i).drop (1 + j)) l : Nat) : Int)).sum).sum := by
  rw [cnt_cuts, cnt_cuts, sum_subs, List.range_succ, List.map_append, List.sum_append]
  have last : ((cnt (w.take w.length) f : Nat) : Int) * ((cnt (w.drop w.length) (a ++ l) : Nat) : Int) - ((cnt (w.take w.length) f : Nat) : Int) * ((cnt (w.drop w.length) (b ++ l) : Nat) : Int) = 0 := by
    rw [List.drop_length, cnt_nil, cnt_nil]
    omega
  rw [List.map_singleton, List.sum_singleton, last, Int.add_zero]
  congr 1
  refine List.map_congr_left fun i _ => ?_
  rw [← Int.mul_sub, mid_diff, List.length_drop]
theorem bring_one (a b f l : Wd) (e : Wd × Int) : e.2 * ((cnt e.1 (f ++ (a ++ l)) : Nat) : Int) - e.2 * ((cnt e.1 (f ++ (b ++ l)) : Nat) : Int) = bring (rowsOf a b e) f l := by
  rw [← Int.mul_sub, one_diff]
  unfold bring rowsOf cuts3 cutsUp
  rw [List.map_map, sum_flat, sum_scale]
  congr 1
  refine List.map_congr_left fun i hi => ?_
  unfold cutsAt
  rw [List.map_map, ← Int.mul_assoc, Int.mul_comm e.2, Int.mul_assoc, sum_scale, sum_scale]
  congr 1
  refine List.map_congr_left fun j _ => ?_
  show _ = ((cnt (e.1.take i) f : Nat) : Int) * (gapOf a b e.2 ((e.1.take (i + 1 + j)).drop i) * ((cnt (e.1.drop (i + 1 + j)) l : Nat) : Int))
  unfold gapOf
  have q1 : (e.1.take (i + 1 + j)).drop i = (e.1.drop i).take (1 + j) := by
    rw [List.drop_take]
    congr 1
    omega
  have q2 : (e.1.drop i).drop (1 + j) = e.1.drop (i + 1 + j) := by
    rw [List.drop_drop]
    congr 1
    omega
  rw [q1, q2, Int.mul_assoc]
theorem bring_app (r s : List Row) (a b : Wd) : bring (r ++ s) a b = bring r a b + bring s a b := by
  unfold bring
  rw [List.map_append, List.sum_append]
theorem worth_gap (a b f l : Wd) : ∀ ts : Terms, worth ts (f ++ (a ++ l)) - worth ts (f ++ (b ++ l)) = bring (rows a b ts) f l
  | [] => rfl
  | e :: ts => by
    have ih := worth_gap a b f l ts
    have h := bring_one a b f l e
    show _ = bring (rowsOf a b e ++ rows a b ts) f l
    rw [worth_cons, worth_cons, bring_app, ← h, ← ih]
    omega
/-- what a cut of a word is -/
theorem cuts3_mem {w : Wd} {c : Wd × Wd × Wd} (h : c ∈ cuts3 w) : c.1 ++ (c.2.1 ++ c.2.2) = w ∧ c.2.1 ≠ [] ∧ c.1.length + c.2.2.length + 1 ≤ w.length := by
  obtain ⟨i, hi, hc⟩ := List.mem_flatMap.mp h
  obtain ⟨j, hj, rfl⟩ := List.mem_map.mp hc
  have hi := List.mem_range.mp hi
  have hj := List.mem_range.mp hj
  refine ⟨?_, fun z => ?_, ?_⟩
  · show w.take i ++ ((w.take (i + 1 + j)).drop i ++ w.drop (i + 1 + j)) = w
    have : w.take i = (w.take (i + 1 + j)).take i := by rw [List.take_take, Nat.min_eq_left (by omega)]
    rw [← List.append_assoc, this, List.take_append_drop, List.take_append_drop]
  · have := congrArg List.length z
    rw [List.length_drop, List.length_take, List.length_nil] at this
    omega
  · show (w.take i).length + (w.drop (i + 1 + j)).length + 1 ≤ _
    rw [List.length_take, List.length_drop]
    omega
theorem cutsUp_len (w : Wd) : ∀ k, (cutsUp w k).length ≤ k * w.length
  | 0 => by show 0 ≤ _; omega
  | k + 1 => by
    have ih := cutsUp_len w k
    unfold cutsUp at ih ⊢
    rw [List.range_succ, List.flatMap_append, List.length_append, Nat.add_mul]
    have : ([k].flatMap fun lo => cutsAt w lo (w.length - lo)).length ≤ 1 * w.length := by
      rw [List.flatMap_cons, List.flatMap_nil, List.append_nil]
      unfold cutsAt
      rw [List.length_map, List.length_range]
      omega
    omega
end Tm
set_option Elab.async false
set_option linter.all false
set_option maxRecDepth 100000
set_option maxHeartbeats 4000000
namespace K15
open PySem PySem.Spec PyProof.Rows L2 Evl Bx
section
variable {P : Program} {w : World} {K : PySem.W.Frag} {mg : Str → Option Value} {base : Heap}
def ends (u : Tm.Wd) : List Tm.Wd := (List.range (u.length + 1)).map fun i => u.drop i
theorem ends_len (u : Tm.Wd) : (ends u).length = u.length + 1 := by unfold ends; rw [List.length_map, List.length_range]
theorem ends_at {u : Tm.Wd} {j : Nat} (h : j < u.length + 1) : (ends u)[j]? = some (u.drop j) := by
  unfold ends
  rw [List.getElem?_map, List.getElem?_range h]
  rfl
theorem ends_all {l : List Tm.Wd} (h : ∀ u ∈ l, u.length ≤ 20) : (l.flatMap ends).length ≤ l.length * 21 := by
  induction l with
  | nil => exact Nat.zero_le _
  | cons u l ih =>
    have := h u List.mem_cons_self
    rw [List.flatMap_cons, List.length_append, ends_len, List.length_cons, Nat.add_mul]
    have := ih fun x hx => h x (List.mem_cons_of_mem _ hx)
    omega
def sp_pcounts (K : PySem.W.Frag) : Sp := fun vs H Q _ => ∃ (a : Addr) (ws : List Tm.Wd) (t : Tm.Wd), vs = [.ref a, tx t] ∧ SqL K H a (ws.map tx) ∧ (∀ u ∈ ws, u.length ≤ 20) ∧ ws.length ≤ 100 ∧ Low t ∧ t.length ≤ 1000 ∧
  ∀ d H' bs, Ex H H' → H' d = some (.dK (Nd.enc V.int (cts (Tm.ser (Tm.small t)) bs))) → bs.Nodup → (∀ u ∈ ws, ∀ i ≤ u.length, ∀ k ≤ u.length - i, (u.drop i).take k ∈ bs) → Q (.ref d) H'
theorem ok_part_counts (T : Tx K mg) : FnOk P w K mg base CX0 3 T.a_part_counts T.fd_part_counts ["words", "text"] (sp_pcounts K) := by
  refine T.F_part_counts.ok sc_part_counts (fun vs H Q E h => ?_) (fun cdv A outer s H vs Q E hr h => ?_)
  · obtain ⟨_, _, _, rfl, _⟩ := h
    rfl
  · obtain ⟨a, ws, t, rfl, hS, hl, few, lo, tl, q⟩ := h
    refine ⟨_, (pss_one (ps_ret (pe_call (ok_beginning_counts T) (hr.mono (by decide)) (by rfl) T.g_beginning_counts T.F_beginning_counts.kp (b_beginning_counts T) .nil pass0 (pa_cons (pe_lc2 (own := [("word", 2), ("cut", 3)]) (vs1 := [3]) (g := (gName 2)) (g1 := (gName 3)) (tt := tYes) (tt1 := tYes) rfl sc_part_counts.nd (pi_list (pv 0)) (blkOk_by (own := [("word", 2), ("cut", 3)]) (N := N_part_counts) (sc := defScope s_part_counts) (by decide +kernel)) (by decide) (fun _ _ _ _ _ => (pg_name (i := 2) sc_part_counts.nd rfl (by first | exact Or.inl rfl | exact Or.inr rfl))) (fun _ _ _ _ _ => pts_nil) (fun _ _ _ _ _ => (pi_range1 (by rfl) T.n_range (pa_cons (pe_op op_add (pe_callB call_len_str (by rfl) T.n_len (by decide +kernel) (pa_cons (pv 2) pa_nil)) pe_int) pa_nil))) (fun _ _ _ _ _ => (pg_name (i := 3) sc_part_counts.nd rfl (by first | exact Or.inl rfl | exact Or.inr rfl))) (fun _ _ _ _ _ => pts_nil) (fun _ _ _ _ _ => (pe_slice sl_str (pv 2) (po_some (pv 3)) po_none))) (pa_cons (pv 1) pa_nil))))), ?_⟩
    refine ⟨_, rfl, a, rfl, ⟨_, hS⟩, fun D nD => ?_⟩
    refine Nd.walk_list (xs := ws.map tx) (fun i H2 => Ex H H2 ∧ H2 D = some (.lst (((ws.take i).flatMap ends).map tx))) ⟨ex_upd nD, upd_same⟩ (fun i H2 _ ⟨e2, _⟩ => ex_l e2 hS) (fun i v H2 hv ⟨e2, hD⟩ => ?_) (fun H2 ⟨e2, hD⟩ => ?_)
    · rw [List.getElem?_map] at hv
      cases hu : ws[i]? with
      | none => rw [hu] at hv; cases hv
      | some u =>
      rw [hu] at hv
      cases hv
      have il : i < ws.length := (List.getElem?_eq_some_iff.mp hu).1
      have ul := hl u (List.mem_of_getElem? hu)
      have prev := ends_all (l := ws.take i) fun x hx => hl x (List.mem_of_mem_take hx)
      rw [List.length_take] at prev
      refine ⟨rfl, ?_⟩
      dsimp only [tYes]
      refine iteT ⟨_, rfl, mk u, rfl, by rw [mk_len]; exact sz_of (by omega), _, _, rfl, rfl, ((u.length + 1 : Nat) : Int), by rw [mk_len]; rfl, by omega, by omega, ?_⟩
      rw [show ((u.length + 1 : Nat) : Int).toNat = u.length + 1 from by omega]
      refine Nd.walk_range (lo := 0) (n := u.length + 1) (fun j H3 => Ex H H3 ∧ H3 D = some (.lst (((ws.take i).flatMap ends ++ (ends u).take j).map tx))) ⟨e2, by rw [List.take_zero, List.append_nil]; exact hD⟩ (fun j H3 hj ⟨e3, hD3⟩ => ?_) (fun H3 ⟨e3, hD3⟩ => ?_)
      · have ec : (0 : Int) + (j : Nat) = ((j : Nat) : Int) := by omega
        rw [ec]
        refine ⟨rfl, iteT ⟨_, rfl, _, rfl, ((j : Nat) : Int), rfl, mk u, rfl, by rw [mk_len]; exact sz_of (by omega), ?_⟩⟩
        rw [cut_from]
        refine ⟨_, hD3, sz_lt (by rw [List.length_map, List.length_append, List.length_take, ends_len]; omega), e3.mut nD, ?_⟩
        rw [upd_same, take_one (ends_at hj)]
        simp only [List.map_append, List.append_assoc]
        rfl
      · refine ⟨e3, ?_⟩
        rw [hD3, take_one hu, List.flatMap_append, List.flatMap_cons, List.flatMap_nil, List.append_nil, List.take_of_length_le (l := ends u) (by rw [ends_len]; exact Nat.le_refl _)]
    · rw [List.length_map, List.take_length] at hD
      have all := ends_all hl
      refine ⟨_, rfl, D, ws.flatMap ends, Tm.small t, 20, by rw [sgs_small]; rfl, .inl (.inl hD), fun x hx => ?_, by omega, by omega, small_low lo, by unfold Tm.small; rw [List.length_map]; exact tl, fun d H3 bs e3 hd nd hc => q d H3 bs (e2.trans e3) hd nd fun u hu i hi k hk => ?_⟩
      · obtain ⟨u, hu, hx⟩ := List.mem_flatMap.mp hx
        obtain ⟨j, _, rfl⟩ := List.mem_map.mp hx
        have := hl u hu
        rw [List.length_drop]
        omega
      · refine hc (u.drop i) (List.mem_flatMap.mpr ⟨u, hu, List.mem_map.mpr ⟨i, List.mem_range.mpr (by omega), rfl⟩⟩) k (by rw [List.length_drop]; exact hk)
end
end K15
set_option Elab.async false
set_option linter.all false
set_option maxRecDepth 100000
set_option maxHeartbeats 4000000
namespace K15
open PySem PySem.Spec PyProof.Rows L2 Evl Bx
section
variable {P : Program} {w : World} {K : PySem.W.Frag} {mg : Str → Option Value} {base : Heap}
def cV (c : Tm.Wd × Tm.Wd × Tm.Wd) : List V := [tx c.1, tx c.2.1, tx c.2.2]
theorem at_more (u : Tm.Wd) (lo k : Nat) : Tm.cutsAt u lo (k + 1) = Tm.cutsAt u lo k ++ [(u.take lo, (u.take (lo + 1 + k)).drop lo, u.drop (lo + 1 + k))] := by
  unfold Tm.cutsAt
  rw [List.range_succ, List.map_append]
  rfl
theorem up_more (u : Tm.Wd) (k : Nat) : Tm.cutsUp u (k + 1) = Tm.cutsUp u k ++ Tm.cutsAt u k (u.length - k) := by
  unfold Tm.cutsUp
  rw [List.range_succ, List.flatMap_append, List.flatMap_cons, List.flatMap_nil, List.append_nil]
theorem at_len (u : Tm.Wd) (lo k : Nat) : (Tm.cutsAt u lo k).length = k := by
  unfold Tm.cutsAt
  rw [List.length_map, List.length_range]
theorem cut_midst (u : List Nat) {a b : Nat} (ab : a ≤ b) (bu : b ≤ u.length) : cutS (mk u) (some ((a : Nat) : Int)) (some ((b : Nat) : Int)) = mk ((u.take b).drop a) := by
  rw [cut_mk, ix_nat, ix_nat, Nat.min_eq_left bu, Nat.min_eq_left (by omega), List.drop_take]
def sp_cuts (K : PySem.W.Frag) : Sp := fun vs H Q _ => ∃ (u : Tm.Wd), vs = [tx u] ∧ u.length ≤ 20 ∧ ∀ p us H', Ex H H' → H' p = some (.lst us) → Nd.TW K H' cV us (Tm.cuts3 u) → Q (.ref p) H'
theorem ok__cuts (T : Tx K mg) : FnOk P w K mg base CX0 1 T.a__cuts T.fd__cuts ["word"] (sp_cuts K) := by
  refine T.F__cuts.ok sc__cuts (fun vs H Q E h => ?_) (fun cdv A outer s H vs Q E hr h => ?_)
  · obtain ⟨_, rfl, _⟩ := h
    rfl
  · obtain ⟨u, rfl, ul, q⟩ := h
    refine ⟨_, (pss_cons (ps_set (i := 1) sc__cuts.nd rfl (by first | exact Or.inl rfl | exact Or.inr rfl) (pe_callB call_len_str (by rfl) T.n_len (by decide +kernel) (pa_cons (pv 0) pa_nil))) (pss_one (ps_ret (pe_lc2 (own := [("low", 2), ("high", 3)]) (vs1 := [3]) (g := (gName 2)) (g1 := (gName 3)) (tt := tYes) (tt1 := tYes) rfl sc__cuts.nd (pi_range1 (by rfl) T.n_range (pa_cons (pv 1) pa_nil)) (blkOk_by (own := [("low", 2), ("high", 3)]) (N := N__cuts) (sc := defScope s__cuts) (by decide +kernel)) (by decide) (fun _ _ _ _ _ => (pg_name (i := 2) sc__cuts.nd rfl (by first | exact Or.inl rfl | exact Or.inr rfl))) (fun _ _ _ _ _ => pts_nil) (fun _ _ _ _ _ => (pi_range2 (by rfl) T.n_range (pa_cons (pe_op op_add (pv 2) pe_int) (pa_cons (pe_op op_add (pv 1) pe_int) pa_nil)))) (fun _ _ _ _ _ => (pg_name (i := 3) sc__cuts.nd rfl (by first | exact Or.inl rfl | exact Or.inr rfl))) (fun _ _ _ _ _ => pts_nil) (fun _ _ _ _ _ => (pe_tup (pa_cons (pe_slice sl_str (pv 0) po_none (po_some (pv 2))) (pa_cons (pe_slice sl_str (pv 0) (po_some (pv 2)) (po_some (pv 3))) (pa_cons (pe_slice sl_str (pv 0) (po_some (pv 3)) po_none) pa_nil))))))))), ?_⟩
    refine ⟨_, rfl, mk u, rfl, by rw [mk_len]; exact sz_of (by omega), ?_⟩
    rw [mk_len]
    refine ⟨_, rfl, ((u.length : Nat) : Int), rfl, by omega, by omega, fun D nD => ?_⟩
    rw [show ((u.length : Nat) : Int).toNat = u.length from by omega]
    refine Nd.walk_range (lo := 0) (n := u.length) (fun i H2 => ∃ us, Ex H H2 ∧ H2 D = some (.lst us) ∧ Nd.TW K H2 cV us (Tm.cutsUp u i)) ⟨[], ex_upd nD, upd_same, trivial⟩ (fun i H2 hi ⟨us, e2, hD, hT⟩ => ?_) (fun H2 ⟨us, e2, hD, hT⟩ => q D us H2 e2 hD hT)
    have ec : (0 : Int) + (i : Nat) = ((i : Nat) : Int) := by omega
    rw [ec]
    refine ⟨rfl, ?_⟩
    dsimp only [tYes]
    have upl := Tm.cutsUp_len u i
    have up2 : i * u.length ≤ 20 * 20 := Nat.mul_le_mul (by omega) ul
    refine iteT ⟨_, rfl, _, _, rfl, rfl, _, rfl, _, _, rfl, rfl, ((i + 1 : Nat) : Int), ((u.length + 1 : Nat) : Int), rfl, ⟨by omega, by omega, by omega, by omega⟩, ?_⟩
    rw [show (((u.length + 1 : Nat) : Int) - ((i + 1 : Nat) : Int)).toNat = u.length - i from by omega]
    refine Nd.walk_range (lo := ((i + 1 : Nat) : Int)) (n := u.length - i) (fun j H3 => ∃ us, Ex H H3 ∧ H3 D = some (.lst us) ∧ Nd.TW K H3 cV us (Tm.cutsUp u i ++ Tm.cutsAt u i j)) ⟨us, e2, hD, by show Nd.TW K H2 cV us (Tm.cutsUp u i ++ []); rw [List.append_nil]; exact hT⟩ (fun j H3 hj ⟨us, e3, hD3, hT3⟩ => ?_) (fun H3 ⟨us, e3, hD3, hT3⟩ => ⟨us, e3, hD3, by rw [up_more]; exact hT3⟩)
    have ec : ((i + 1 : Nat) : Int) + (j : Nat) = ((i + 1 + j : Nat) : Int) := by omega
    rw [ec]
    have usl := hT3.len
    rw [List.length_append, at_len] at usl
    have sz1 : (mk u).length ≤ sizeLine := by rw [mk_len]; exact sz_of (by omega)
    refine ⟨rfl, iteT ⟨_, rfl, _, rfl, ((i : Nat) : Int), rfl, mk u, rfl, sz1, _, rfl, _, rfl, ((i : Nat) : Int), rfl, _, rfl, ((i + 1 + j : Nat) : Int), rfl, mk u, rfl, sz1, _, rfl, _, rfl, ((i + 1 + j : Nat) : Int), rfl, mk u, rfl, sz1, ?_⟩⟩
    rw [cut_to, cut_from, cut_midst u (by omega) (by omega)]
    refine ⟨sz_of (by show 3 ≤ 100000; omega), fun t nt => ?_⟩
    have Dt : D ≠ t := ex_ne hD3 nt
    refine ⟨us, by rw [upd_ne Dt]; exact hD3, sz_lt (by omega), us ++ [.ref t], (e3.trans (ex_upd nt)).mut nD, upd_same, ?_⟩
    rw [at_more, ← List.append_assoc]
    exact ((hT3.ex (ex_upd nt)).imp fun q xs h => sqT_upL (by rw [upd_ne Dt]; exact hD3) h).snoc (.inl (.inl (by rw [upd_ne Dt.symm, upd_same]; rfl)))
end
end K15
set_option Elab.async false
set_option linter.all false
set_option maxRecDepth 100000
set_option maxHeartbeats 4000000
namespace K15
open PySem PySem.Spec PyProof.Rows L2 Evl Bx
section
variable {P : Program} {w : World} {K : PySem.W.Frag} {mg : Str → Option Value} {base : Heap}
def key (u v : Tm.Wd) : List Key := [Sum.inr (mk u), Sum.inr (mk v)]
def getN (kvs : List (List Key × V)) (u v : Tm.Wd) : V := (valV kvs (key u v)).getD (V.int 0)
/-- a dict that holds what rows bring -/
structure Acc (rs : List Tm.Row) (kvs : List (List Key × V)) : Prop where
  val : ∀ u v, getN kvs u v = V.int (Tm.sumAt rs u v)
  all : ∀ kv ∈ kvs, ∃ u v, kv.1 = key u v ∧ kv.2 = V.int (Tm.sumAt rs u v)
  few : kvs.length ≤ rs.length
theorem key_inj {u v a b : Tm.Wd} (h : key u v = key a b) : u = a ∧ v = b := by
  unfold key at h
  injection h with h1 h2
  injection h2 with h2 _
  exact ⟨mk_inj.mp (Sum.inr.inj h1), mk_inj.mp (Sum.inr.inj h2)⟩
theorem sum_one1 (u v a b : Tm.Wd) (g : Int) : Tm.sumAt [((u, v), g)] a b = if (u, v) = (a, b) then g else 0 := by
  unfold Tm.sumAt
  rw [List.map_singleton, List.sum_singleton]
theorem Acc.skip {rs : List Tm.Row} {kvs : List (List Key × V)} (h : Acc rs kvs) (u v : Tm.Wd) : Acc (rs ++ [((u, v), 0)]) kvs := by
  have e : ∀ a b, Tm.sumAt (rs ++ [((u, v), 0)]) a b = Tm.sumAt rs a b := fun a b => by
    rw [Tm.sumAt_app, sum_one1]
    split <;> omega
  refine ⟨fun a b => by rw [e]; exact h.val a b, fun kv hk => ?_, by have := h.few; rw [List.length_append, List.length_singleton]; omega⟩
  obtain ⟨a, b, h1, h2⟩ := h.all kv hk
  exact ⟨a, b, h1, by rw [e]; exact h2⟩
theorem Acc.put {rs : List Tm.Row} {kvs : List (List Key × V)} (h : Acc rs kvs) (u v : Tm.Wd) (g : Int) : Acc (rs ++ [((u, v), g)]) (putK kvs (key u v) (V.int (Tm.sumAt rs u v + g))) := by
  have same : Tm.sumAt (rs ++ [((u, v), g)]) u v = Tm.sumAt rs u v + g := by rw [Tm.sumAt_app, sum_one1, if_pos rfl]
  have oth : ∀ a b, ¬ key a b = key u v → Tm.sumAt (rs ++ [((u, v), g)]) a b = Tm.sumAt rs a b := fun a b ne => by
    rw [Tm.sumAt_app, sum_one1, if_neg fun q => ne (by rw [Prod.mk.injEq] at q; rw [q.1, q.2]), Int.add_zero]
  refine ⟨fun a b => ?_, fun kv hk => ?_, ?_⟩
  · unfold getN
    rw [valV_put]
    by_cases e : key a b = key u v
    · obtain ⟨rfl, rfl⟩ := key_inj e
      rw [if_pos rfl, same]
      rfl
    · rw [if_neg e, oth a b e]
      exact h.val a b
  · unfold putK at hk
    split at hk
    · obtain ⟨kv0, h0, rfl⟩ := List.mem_map.mp hk
      obtain ⟨a, b, h1, h2⟩ := h.all kv0 h0
      by_cases e : kv0.1 = key u v
      · rw [if_pos e]
        exact ⟨u, v, e, by rw [same]⟩
      · rw [if_neg e]
        exact ⟨a, b, h1, by rw [oth a b (fun z => e (h1.trans z))]; exact h2⟩
    · rcases List.mem_append.mp hk with h0 | h0
      · obtain ⟨a, b, h1, h2⟩ := h.all kv h0
        by_cases e : key a b = key u v
        · rename_i no
          exfalso
          apply no
          rw [List.any_eq_true]
          exact ⟨kv, h0, decide_eq_true (h1.trans e)⟩
        · exact ⟨a, b, h1, by rw [oth a b e]; exact h2⟩
      · rw [List.mem_singleton.mp h0]
        exact ⟨u, v, rfl, by rw [same]⟩
  · have := length_putK kvs (key u v) (V.int (Tm.sumAt rs u v + g))
    have := h.few
    rw [List.length_append, List.length_singleton]
    omega
theorem Acc.nil : Acc [] [] := ⟨fun u v => rfl, fun kv h => absurd h List.not_mem_nil, Nat.le_refl _⟩
/-- a pair that has a number stands in the dict -/
theorem Acc.there {rs : List Tm.Row} {kvs : List (List Key × V)} (h : Acc rs kvs) {u v : Tm.Wd} (ne : Tm.sumAt rs u v ≠ 0) : ∃ kv ∈ kvs, kv.1 = key u v := by
  have q := h.val u v
  unfold getN at q
  cases c : valV kvs (key u v) with
  | none =>
    rw [c] at q
    exact absurd (V.int.inj q).symm ne
  | some z =>
    unfold valV at c
    obtain ⟨kv, hf, _⟩ := Option.map_eq_some_iff.mp c
    exact ⟨kv, List.mem_of_find?_eq_some hf, of_decide_eq_true (List.find?_some (p := fun kv : List Key × V => decide (kv.1 = key u v)) hf)⟩
theorem sqT_xgD {F : Addr} {H H' : Hp} {kvs : List (List Key × V)} (hF : H F = some (.dT kvs)) (e : Xg F H H') {q : Addr} {xs : List V} (h : SqT K H q xs) : SqT K H' q xs := by
  rcases h with (h | ⟨o, h⟩) | h
  · exact .inl (.inl (e _ _ (fun z => by rw [z, hF] at h; cases h) h))
  · exact .inl (.inr ⟨o, e _ _ (fun z => by rw [z, hF] at h; cases h) h⟩)
  · exact .inr h
theorem rows_at {x y : Tm.Wd} {e : Tm.Wd × Int} {j : Nat} {c : Tm.Wd × Tm.Wd × Tm.Wd} (h : (Tm.cuts3 e.1)[j]? = some c) : (Tm.rowsOf x y e)[j]? = some ((c.1, c.2.2), Tm.gapOf x y e.2 c.2.1) := by
  unfold Tm.rowsOf
  rw [List.getElem?_map, h]
  rfl
theorem rowsOf_len (x y : Tm.Wd) (e : Tm.Wd × Int) : (Tm.rowsOf x y e).length = (Tm.cuts3 e.1).length := by
  unfold Tm.rowsOf
  rw [List.length_map]
theorem cuts3_len {u : Tm.Wd} (h : u.length ≤ 20) : (Tm.cuts3 u).length ≤ 400 := by
  have h1 := Tm.cutsUp_len u u.length
  have h2 : u.length * u.length ≤ 20 * 20 := Nat.mul_le_mul h h
  exact Nat.le_trans h1 h2
theorem rows_len (x y : Tm.Wd) : ∀ {l : Tm.Terms}, (∀ e ∈ l, e.1.length ≤ 20) → (Tm.rows x y l).length ≤ l.length * 400
  | [], _ => Nat.zero_le _
  | e :: l, h => by
    have ih := rows_len x y (l := l) fun z hz => h z (List.mem_cons_of_mem _ hz)
    have := cuts3_len (h e List.mem_cons_self)
    unfold Tm.rows at ih ⊢
    rw [List.flatMap_cons, List.length_append, List.length_cons, rowsOf_len, Nat.add_mul]
    omega
theorem rows_mem {x y : Tm.Wd} {ts : Tm.Terms} {r : Tm.Row} (h : r ∈ Tm.rows x y ts) : ∃ e ∈ ts, ∃ c ∈ Tm.cuts3 e.1, r.1 = (c.1, c.2.2) := by
  obtain ⟨e, he, hr⟩ := List.mem_flatMap.mp h
  obtain ⟨c, hc, rfl⟩ := List.mem_map.mp hr
  exact ⟨e, he, c, hc, rfl⟩
def sp_changes (T : Tx K mg) : Sp := fun vs H Q _ => ∃ v ts x y, vs = [v, tx x, tx y] ∧ SumAt T H v ts ∧ Tm.Nf ts ∧ ts.length ≤ 100 ∧ (∀ e ∈ ts, e.1.length ≤ 20 ∧ e.2.natAbs < 2 ^ 4000) ∧ Low x ∧ x.length ≤ 1000 ∧ Low y ∧ y.length ≤ 1000 ∧
  ∀ o z H', Tm.Best (fun u v => Tm.sumAt (Tm.rows x y ts) u v ≠ 0) o → Ex H H' → PairAt K H' z o → Q z H'
theorem ok_changes (T : Tx K mg) : FnOk P w K mg base CX0 4 T.a_changes T.fd_changes ["total", "one", "other"] (sp_changes T) := by
  refine T.F_changes.ok sc_changes (fun vs H Q E h => ?_) (fun cdv A outer s H vs Q E hr h => ?_)
  · obtain ⟨_, _, _, _, rfl, _⟩ := h
    rfl
  · obtain ⟨v, ts, x, y, rfl, hs, nf, few, len, lx, xl, ly, yl, q⟩ := h
    refine ⟨_, (pss_cons (ps_expr (pe_call (ok_need_sum T) (hr.mono (by decide)) (by rfl) T.g_need_sum T.F_need_sum.kp (b_need_sum T) .nil pass0 (pa_cons (pv 0) pa_nil))) (pss_cons (ps_expr (pe_call (ok_need_text T) (hr.mono (by decide)) (by rfl) T.g_need_text T.F_need_text.kp (b_need_text T) .nil pass0 (pa_cons (pv 1) pa_nil))) (pss_cons (ps_expr (pe_call (ok_need_text T) (hr.mono (by decide)) (by rfl) T.g_need_text T.F_need_text.kp (b_need_text T) .nil pass0 (pa_cons (pv 2) pa_nil))) (pss_cons (ps_setLc (i := 3) (own := [("word", 4), ("_", 5)]) (g := (gTup K 2 (gCons (gName 4) (gCons (gName 5) gNil)))) (tt := tYes) (by rfl) sc_changes.nd rfl rfl (sw_true rfl rfl rfl (by decide +kernel)) (pi_list (pe_meth0 (pv 0) T.cl_Sum T.m_Sum_terms (ok_Sum_terms T) (hr.mono (by decide)) (b_Sum_terms T) .nil pass0)) (blkOk_by (own := [("word", 4), ("_", 5)]) (N := N_changes) (sc := defScope s_changes) (by decide +kernel)) (fun _ _ _ _ _ => (pg_tup (by rfl) (pgs_cons (pg_name (i := 4) sc_changes.nd rfl (by first | exact Or.inl rfl | exact Or.inr rfl)) (pgs_cons (pg_name (i := 5) sc_changes.nd rfl (by first | exact Or.inl rfl | exact Or.inr rfl)) pgs_nil)))) (fun _ _ _ _ _ => pts_nil) (fun _ _ _ _ _ => (pv 4))) (pss_cons (ps_par (i := 6) (j := 7) (by rfl) sc_changes.nd rfl rfl (by decide) (by rfl) (by rfl) (pa_cons (pe_call (ok_part_counts T) (hr.mono (by decide)) (by rfl) T.g_part_counts T.F_part_counts.kp (b_part_counts T) .nil pass0 (pa_cons (pv 3) (pa_cons (pv 1) pa_nil))) (pa_cons (pe_call (ok_part_counts T) (hr.mono (by decide)) (by rfl) T.g_part_counts T.F_part_counts.kp (b_part_counts T) .nil pass0 (pa_cons (pv 3) (pa_cons (pv 2) pa_nil))) pa_nil)) (by rfl)) (pss_cons (ps_set (i := 8) sc_changes.nd rfl (by first | exact Or.inl rfl | exact Or.inr rfl) pe_dnewT) (pss_cons (ps_for PassesOwn.never rfl (pi_list (pe_meth0 (pv 0) T.cl_Sum T.m_Sum_terms (ok_Sum_terms T) (hr.mono (by decide)) (b_Sum_terms T) .nil pass0)) (pg_tup (by rfl) (pgs_cons (pg_name (i := 4) sc_changes.nd rfl (by first | exact Or.inl rfl | exact Or.inr rfl)) (pgs_cons (pg_name (i := 9) sc_changes.nd rfl (by first | exact Or.inl rfl | exact Or.inr rfl)) pgs_nil))) (pss_one (ps_for PassesOwn.never rfl (pi_list (pe_call (ok__cuts T) (hr.mono (by decide)) (by rfl) T.g__cuts T.F__cuts.kp (b__cuts T) .nil pass0 (pa_cons (pv 4) pa_nil))) (pg_tup (by rfl) (pgs_cons (pg_name (i := 10) sc_changes.nd rfl (by first | exact Or.inl rfl | exact Or.inr rfl)) (pgs_cons (pg_name (i := 11) sc_changes.nd rfl (by first | exact Or.inl rfl | exact Or.inr rfl)) (pgs_cons (pg_name (i := 12) sc_changes.nd rfl (by first | exact Or.inl rfl | exact Or.inr rfl)) pgs_nil)))) (pss_cons (ps_set (i := 13) sc_changes.nd rfl (by first | exact Or.inl rfl | exact Or.inr rfl) (pe_op op_mulW (pv 9) (pe_op op_sub (pe_dget (hu_of hr) (pv 6) (pv 11) (fun _ _ => rfl)) (pe_dget (hu_of hr) (pv 7) (pv 11) (fun _ _ => rfl))))) (pss_one (ps_if (pt_cmpR op_ne (pv 13) pe_int (nomark _)) (pss_one (ps_dput (hu_of hr) (pv 8) (pe_tup (pa_cons (pv 10) (pa_cons (pv 12) pa_nil))) (pe_op op_add (pe_dget2 (hu_of hr) (pv 8) (pe_tup (pa_cons (pv 10) (pa_cons (pv 12) pa_nil))) pe_int ⟨rfl, rfl, rfl, rfl⟩) (pv 13)) rfl)) pss_nil)))))) (pss_one (ps_ret (pe_call (ok__first_pair T) (hr.mono (by decide)) (by rfl) T.g__first_pair T.F__first_pair.kp (b__first_pair T) .nil pass0 (pa_cons (pe_lock (pe_lc (own := [("pair", 14), ("gap", 13)]) (g := (gTup K 2 (gCons (gName 14) (gCons (gName 13) gNil))))  rfl sc_changes.nd (Nt.pi_pairs (pv 8)) (blkOk_by (own := [("pair", 14), ("gap", 13)]) (N := N_changes) (sc := defScope s_changes) (by decide +kernel)) (fun _ _ _ _ _ => (pg_tup (by rfl) (pgs_cons (pg_name (i := 14) sc_changes.nd rfl (by first | exact Or.inl rfl | exact Or.inr rfl)) (pgs_cons (pg_name (i := 13) sc_changes.nd rfl (by first | exact Or.inl rfl | exact Or.inr rfl)) pgs_nil)))) (fun _ _ _ _ _ => (pts_one (pt_cmpR op_ne (pv 13) pe_int (nomark _)))) (fun _ _ _ _ _ => (pv 14)))) pa_nil))))))))))), ?_⟩
    have nd := Gm.nf_nodup nf
    have hs' := hs
    obtain ⟨ox, dx, l, vs0, rfl, h1, h2, h3⟩ := hs'
    refine ⟨_, rfl, .ref ox, ts, rfl, hs, ?_⟩
    refine ⟨_, rfl, x, rfl, lx, ?_⟩
    refine ⟨_, rfl, y, rfl, ly, ?_⟩
    dsimp only [tNext, tSeq, tAsg, tC, gName]
    refine ⟨_, rfl, ox, dx, _, rfl, h1, rfl, _, ts, rfl, hs, fun p us H1 e1 np hp tv => ⟨p, rfl, ⟨_, .inl (.inl hp)⟩, fun D nD => ?_⟩⟩
    have ul := tv.len
    refine lc_list (xs := us) (fun i H2 => Ex H1 H2 ∧ H2 D = some (.lst (((ts.take i).map (·.1)).map tx))) ⟨ex_upd nD, upd_same⟩ (fun i H2 _ ⟨e2, _⟩ => .inl (.inl (e2 _ _ hp))) (fun i v H2 hv ⟨e2, hD⟩ => ?_) (fun H2 ⟨e2, hD⟩ => ?_)
    · obtain ⟨e, qq, he, rfl, hq⟩ := tv.at hv
      have il : i < ts.length := (List.getElem?_eq_some_iff.mp he).1
      refine ⟨qq, _, rfl, ex_t e2 hq, rfl, _, _, rfl, _, _, rfl, rfl, rfl, ?_⟩
      dsimp only [tYes]
      refine iteT ⟨_, rfl, _, hD, by rw [List.length_map, List.length_map, List.length_take]; exact sz_lt (by omega), e2.mut nD, ?_⟩
      rw [upd_same, take_one he, List.map_append, List.map_append]
      rfl
    · rw [ul, List.take_length] at hD
      have e02 := e1.trans e2
      refine ⟨_, rfl, _, rfl, D, ts.map (·.1), x, rfl, .inl (.inl hD), fun u hu => ?_, by rw [List.length_map]; exact few, lx, xl, fun d1 H3 b1 e3 hd1 nb1 cb1 => ?_⟩
      · obtain ⟨e, he, rfl⟩ := List.mem_map.mp hu
        exact (len e he).1
      refine ⟨_, rfl, _, rfl, D, ts.map (·.1), y, rfl, .inl (.inl (e3 _ _ hD)), fun u hu => ?_, by rw [List.length_map]; exact few, ly, yl, fun d2 H4 b2 e4 hd2 nb2 cb2 => ?_⟩
      · obtain ⟨e, he, rfl⟩ := List.mem_map.mp hu
        exact (len e he).1
      have hd1 := e4 _ _ hd1
      have e04 := (e02.trans e3).trans e4
      refine ⟨_, _, rfl, fun F nF => ?_⟩
      have eF := ex_upd (o := .dT []) nF
      have fF : H F = none := exn e04 nF
      have hs5 : SumAt T (upd H4 F (.dT [])) (.ref ox) ts := hs.ex (e04.trans eF)
      have hF5 : upd H4 F (.dT []) F = some (.dT []) := upd_same
      have nd1 : d1 ≠ F := ex_ne hd1 nF
      have nd2 : d2 ≠ F := ex_ne hd2 nF
      have hd1 := eF _ _ hd1
      have hd2 := eF _ _ hd2
      have e05 := e04.trans eF
      generalize upd H4 F (.dT []) = H5 at eF hs5 hF5 hd1 hd2 e05 ⊢
      have h15 := e05 _ _ h1
      refine ⟨_, rfl, ox, dx, _, rfl, h15, rfl, _, ts, rfl, hs5, fun p2 us2 H6 e6 np2 hp2 tv2 => ⟨p2, rfl, ⟨_, .inl (.inl hp2)⟩, ?_⟩⟩
      have ul2 := tv2.len
      have hF6 := e6 _ _ hF5
      have npF : p2 ≠ F := fun z => by rw [z, hF5] at np2; cases np2
      have e06 := e05.trans e6
      have hd1 := e6 _ _ hd1
      have hd2 := e6 _ _ hd2
      refine for_list (xs := us2) (fun i σ H7 => ∃ kvs y4 y5 y9 y10 y11 y12 y13 y14, σ = [some (.ref ox), some (tx x), some (tx y), some (.ref D), y4, y5, some (.ref d1), some (.ref d2), some (.ref F), y9, y10, y11, y12, y13, y14] ∧ Xg F H6 H7 ∧ H7 F = some (.dT kvs) ∧ Acc (Tm.rows x y (ts.take i)) kvs) ⟨[], _, _, _, _, _, _, _, _, rfl, Xg.refl _ _, hF6, Acc.nil⟩ (fun i σ H7 _ hp => ?_) (fun i z σ H7 hz hp => ?_) (fun σ H7 hp => ?_)
      · obtain ⟨_, _, _, _, _, _, _, _, _, _, x7, _, _⟩ := hp
        exact .inl (.inl (x7 _ _ npF hp2))
      · obtain ⟨kvs, y4, y5, y9, y10, y11, y12, y13, y14, rfl, x7, hF7, acc⟩ := hp
        obtain ⟨e, qq, he, rfl, hq⟩ := tv2.at hz
        have il : i < ts.length := (List.getElem?_eq_some_iff.mp he).1
        have em := List.mem_of_getElem? he
        obtain ⟨el, en⟩ := len e em
        refine ⟨qq, _, rfl, sqT_xgD hF6 x7 hq, rfl, _, _, rfl, _, _, rfl, rfl, ?_⟩
        refine ⟨_, rfl, e.1, rfl, el, fun pc uc H8 e8 hpc tc => ⟨pc, rfl, ⟨_, .inl (.inl hpc)⟩, ?_⟩⟩
        have hF8 := e8 _ _ hF7
        have pcF : pc ≠ F := fun z => by rw [z, hF8] at hpc; cases hpc
        have x68 := x7.ex e8
        have ucl := tc.len
        have rl := rows_len x y (l := ts.take i) fun z hz => (len z (List.mem_of_mem_take hz)).1
        rw [List.length_take] at rl
        have cl := cuts3_len el
        refine for_list (xs := uc) (fun j σ H9 => ∃ kvs y5 y10 y11 y12 y13 y14, σ = [some (.ref ox), some (tx x), some (tx y), some (.ref D), some (tx e.1), y5, some (.ref d1), some (.ref d2), some (.ref F), some (.int e.2), y10, y11, y12, y13, y14] ∧ Xg F H8 H9 ∧ H9 F = some (.dT kvs) ∧ Acc (Tm.rows x y (ts.take i) ++ (Tm.rowsOf x y e).take j) kvs) ⟨kvs, _, _, _, _, _, _, rfl, Xg.refl _ _, hF8, by rw [List.take_zero, List.append_nil]; exact acc⟩ (fun j σ H9 _ hp => ?_) (fun j z σ H9 hz hp => ?_) (fun σ H9 hp => ?_)
        · obtain ⟨_, _, _, _, _, _, _, _, x9, _, _⟩ := hp
          exact .inl (.inl (x9 _ _ pcF hpc))
        · obtain ⟨kvs, y5, y10, y11, y12, y13, y14, rfl, x9, hF9, acc⟩ := hp
          obtain ⟨c, qc, hc, rfl, hqc⟩ := tc.at hz
          have cm := List.mem_of_getElem? hc
          obtain ⟨c1, c2, c3⟩ := Tm.cuts3_mem cm
          have x69 := x68.trans x9
          have hd1 := x69 _ _ nd1 hd1
          have hd2 := x69 _ _ nd2 hd2
          refine ⟨qc, _, rfl, sqT_xgD hF8 x9 hqc, rfl, _, _, rfl, _, _, rfl, _, _, rfl, rfl, ?_⟩
          have jl : j < (Tm.cuts3 e.1).length := (List.getElem?_eq_some_iff.mp hc).1
          have lens : e.1.length = c.1.length + (c.2.1.length + c.2.2.length) := by rw [← c1, List.length_append, List.length_append]
          have mid : (e.1.drop c.1.length).take c.2.1.length = c.2.1 := by
            rw [← c1, List.drop_left, List.take_left]
          have in1 : c.2.1 ∈ b1 := by
            have := cb1 e.1 (List.mem_map_of_mem (f := (·.1)) em) c.1.length (by omega) c.2.1.length (by omega)
            rwa [mid] at this
          have in2 : c.2.1 ∈ b2 := by
            have := cb2 e.1 (List.mem_map_of_mem (f := (·.1)) em) c.1.length (by omega) c.2.1.length (by omega)
            rwa [mid] at this
          have n1 : Mx.cnt c.2.1 x < 2 ^ 1001 := Nat.lt_of_le_of_lt (Mx.cnt_le x c.2.1) (Nat.pow_lt_pow_right (by decide) (by omega))
          have n2 : Mx.cnt c.2.1 y < 2 ^ 1001 := Nat.lt_of_le_of_lt (Mx.cnt_le y c.2.1) (Nat.pow_lt_pow_right (by decide) (by omega))
          have n3 : (((Mx.cnt c.2.1 x : Nat) : Int) - ((Mx.cnt c.2.1 y : Nat) : Int)).natAbs < 2 ^ 9000 := Nat.lt_of_lt_of_le (by omega : _ < 2 ^ 1001) (Nat.pow_le_pow_right (by decide) (by omega))
          have n4 : e.2.natAbs < 2 ^ 9000 := Nat.lt_trans en (Nat.pow_lt_pow_right (by decide) (by omega))
          refine ⟨_, rfl, _, rfl, _, rfl, d1, _, rfl, .inl ⟨_, .inr (mk c.2.1), .inl hd1, rfl, by rw [Nd.val_enc, cts_val nb1 in1, Tm.ser_cnt _ x rfl]; rfl⟩, _, rfl, _, rfl, d2, _, rfl, .inl ⟨_, .inr (mk c.2.1), .inl hd2, rfl, by rw [Nd.val_enc, cts_val nb2 in2, Tm.ser_cnt _ y rfl]; rfl⟩, _, _, rfl, rfl, _, _, rfl, rfl, mul_ok n4 n3, ?_⟩
          have rowj := rows_at (x := x) (y := y) hc
          have goal : ∀ kvs', Acc (Tm.rows x y (ts.take i) ++ (Tm.rowsOf x y e).take j ++ [((c.1, c.2.2), Tm.gapOf x y e.2 c.2.1)]) kvs' → Acc (Tm.rows x y (ts.take i) ++ (Tm.rowsOf x y e).take (j + 1)) kvs' := fun kvs' h => by
            rw [take_one rowj, ← List.append_assoc]
            exact h
          by_cases gz : Tm.gapOf x y e.2 c.2.1 = 0
          · have dz : decide (V.int (Tm.gapOf x y e.2 c.2.1) = V.int 0) = true := decide_eq_true (by rw [gz])
            refine ⟨_, rfl, rfl, false, by show V.bl (!decide (V.int (Tm.gapOf x y e.2 c.2.1) = V.int 0)) = _; rw [dz]; rfl, iteF ?_⟩
            exact ⟨kvs, _, _, _, _, _, _, rfl, x9, hF9, goal _ (by rw [gz]; exact acc.skip _ _)⟩
          · have dz : decide (V.int (Tm.gapOf x y e.2 c.2.1) = V.int 0) = false := decide_eq_false fun z => gz (V.int.inj z)
            refine ⟨_, rfl, rfl, true, by show V.bl (!decide (V.int (Tm.gapOf x y e.2 c.2.1) = V.int 0)) = _; rw [dz]; rfl, iteT ?_⟩
            refine ⟨_, rfl, F, rfl, .inr ⟨kvs, .inl hF9⟩, _, rfl, _, rfl, sz_of (by show 2 ≤ 100000; omega), fun t nt => ?_⟩
            have Ft : F ≠ t := ex_ne hF9 nt
            have e10 := ex_upd (o := .tup [tx c.1, tx c.2.2]) nt
            have hF10 := e10 _ _ hF9
            have ht10 : upd H9 t (.tup [tx c.1, tx c.2.2]) t = some (.tup ((key c.1 c.2.2).map kV)) := upd_same
            refine ⟨valV kvs (key c.1 c.2.2), DGet.t hF10 ht10, ?_⟩
            have gv : (valV kvs (key c.1 c.2.2)).getD (V.int 0) = V.int (Tm.sumAt (Tm.rows x y (ts.take i) ++ (Tm.rowsOf x y e).take j) c.1 c.2.2) := acc.val c.1 c.2.2
            rw [gv]
            have x10 := x9.ex e10
            generalize upd H9 t (.tup [tx c.1, tx c.2.2]) = H10 at hF10 x10 ⊢
            refine ⟨_, rfl, _, _, rfl, rfl, _, rfl, _, rfl, _, rfl, sz_of (by show 2 ≤ 100000; omega), fun t2 nt2 => ?_⟩
            have Ft2 : F ≠ t2 := ex_ne hF10 nt2
            have e11 := ex_upd (o := .tup [tx c.1, tx c.2.2]) nt2
            have hF11 := e11 _ _ hF10
            have ht11 : upd H10 t2 (.tup [tx c.1, tx c.2.2]) t2 = some (.tup ((key c.1 c.2.2).map kV)) := upd_same
            have af := acc.few
            rw [List.length_append, List.length_take, rowsOf_len] at af
            refine ⟨F, _, rfl, DPut.t hF11 ht11 (sz_lt (by omega)), putK kvs (key c.1 c.2.2) _, _, _, _, _, _, _, rfl, (x10.ex e11).upd, upd_same, goal _ (acc.put _ _ _)⟩
        · obtain ⟨kvs, y5, y10, y11, y12, y13, y14, rfl, x9, hF9, acc⟩ := hp
          refine ⟨kvs, _, _, _, _, _, _, _, _, rfl, x68.trans x9, hF9, ?_⟩
          rw [ucl, ← rowsOf_len x y, List.take_length] at acc
          rw [take_one he]
          unfold Tm.rows at acc ⊢
          rw [List.flatMap_append, List.flatMap_cons, List.flatMap_nil, List.append_nil]
          exact acc
      · obtain ⟨kvs, y4, y5, y9, y10, y11, y12, y13, y14, rfl, x7, hF7, acc⟩ := hp
        rw [ul2, List.take_length] at acc
        have back : ∀ {H'}, Xg F H6 H' → Ex H H' := fun {H'} xx b o hb => by
          have h2 := e06 _ _ hb
          exact xx b o (fun z => by rw [z, fF] at hb; cases hb) h2
        have rl := rows_len x y (l := ts) fun z hz => (len z hz).1
        have al := acc.few
        refine ⟨F, _, hF7, trivial, fun od => ⟨_, rfl, F, _, _, rfl, upd_same, fun D2 nD2 => ?_⟩⟩
        have hFL : upd H7 F (.frz od (.dT kvs)) F = some (.frz od (.dT kvs)) := upd_same
        have eL : ∀ b o, H b = some o → b ≠ F ∧ upd H7 F (.frz od (.dT kvs)) b = some o := fun b o hb => by
          have ne : b ≠ F := fun z => by rw [z, fF] at hb; cases hb
          exact ⟨ne, by rw [upd_ne ne]; exact back x7 b o hb⟩
        generalize upd H7 F (.frz od (.dT kvs)) = HL at hFL eL nD2 ⊢
        refine Nt.lc_pairs (fun i H8 => ∃ us ps, Ex HL H8 ∧ H8 D2 = some (.lst us) ∧ Nd.TW K H8 prV2 us ps ∧ (∀ z ∈ ps, Tm.sumAt (Tm.rows x y ts) z.1 z.2 ≠ 0) ∧ (∀ k < i, ∀ kv, kvs[k]? = some kv → ∀ u v, kv.1 = key u v → Tm.sumAt (Tm.rows x y ts) u v ≠ 0 → (u, v) ∈ ps) ∧ ps.length ≤ i) ⟨[], [], ex_upd nD2, upd_same, trivial, fun z hz => absurd hz List.not_mem_nil, fun k hk => by omega, Nat.zero_le _⟩ (fun i H8 _ ⟨_, _, e8, _⟩ => e8 _ _ hFL) (fun i k n pr qk H8 hk hp hqk npr => ?_) (fun H8 hp => ?_)
        · obtain ⟨us3, ps, e8, hD2, hT, odd, all, pl⟩ := hp
          have il : i < kvs.length := (List.getElem?_eq_some_iff.mp hk).1
          obtain ⟨u, v, rfl, rfl⟩ : ∃ u v, k = key u v ∧ n = V.int (Tm.sumAt (Tm.rows x y ts) u v) := acc.all _ (List.mem_of_getElem? hk)
          have epr := ex_upd (o := .tup [.ref qk, V.int (Tm.sumAt (Tm.rows x y ts) u v)]) npr
          have D2pr : D2 ≠ pr := ex_ne hD2 npr
          refine ⟨pr, _, rfl, .inl (.inl upd_same), rfl, _, _, rfl, _, _, rfl, rfl, rfl, ?_⟩
          by_cases gz : Tm.sumAt (Tm.rows x y ts) u v = 0
          · have dz : decide (V.int (Tm.sumAt (Tm.rows x y ts) u v) = V.int 0) = true := decide_eq_true (by rw [gz])
            refine ⟨_, rfl, rfl, false, by show V.bl (!decide (V.int (Tm.sumAt (Tm.rows x y ts) u v) = V.int 0)) = _; rw [dz]; rfl, iteF ?_⟩
            refine ⟨us3, ps, e8.trans epr, epr _ _ hD2, hT.ex epr, odd, fun m hm kv hkv a b hab ne => ?_, by omega⟩
            by_cases mi : m = i
            · subst mi
              rw [hk] at hkv
              cases hkv
              obtain ⟨rfl, rfl⟩ := key_inj hab
              exact absurd gz ne
            · exact all m (by omega) kv hkv a b hab ne
          · have dz : decide (V.int (Tm.sumAt (Tm.rows x y ts) u v) = V.int 0) = false := decide_eq_false fun z => gz (V.int.inj z)
            refine ⟨_, rfl, rfl, true, by show V.bl (!decide (V.int (Tm.sumAt (Tm.rows x y ts) u v) = V.int 0)) = _; rw [dz]; rfl, iteT ?_⟩
            have usl := hT.len
            refine ⟨_, rfl, us3, epr _ _ hD2, sz_lt (by omega), us3 ++ [.ref qk], ps ++ [(u, v)], (e8.trans epr).mut nD2, upd_same, ?_, fun z hz => ?_, fun m hm kv hkv a b hab ne => ?_, by rw [List.length_append, List.length_singleton]; omega⟩
            · have qD : qk ≠ D2 := fun z => by rw [z, hD2] at hqk; cases hqk
              have qpr : qk ≠ pr := ex_ne hqk npr
              exact ((hT.ex epr).imp fun q xs h => sqT_upL (epr _ _ hD2) h).snoc (.inl (.inl (by rw [upd_ne qD, upd_ne qpr]; exact hqk)))
            · rcases List.mem_append.mp hz with h | h
              · exact odd z h
              · rw [List.mem_singleton.mp h]
                exact gz
            · by_cases mi : m = i
              · subst mi
                rw [hk] at hkv
                cases hkv
                obtain ⟨rfl, rfl⟩ := key_inj hab
                exact List.mem_append_right _ List.mem_cons_self
              · exact List.mem_append_left _ (all m (by omega) kv hkv a b hab ne)
        · obtain ⟨us3, ps, e8, hD2, hT, odd, all, pl⟩ := hp
          have hF8 := e8 _ _ hFL
          have keep : ∀ q xs, SqT K H8 q xs → SqT K (upd H8 F (.dT kvs)) q xs := fun q xs h => by
            rcases h with (h | ⟨o, h⟩) | h
            · exact .inl (.inl (by rw [upd_ne (fun z => by rw [z, hF8] at h; cases h)]; exact h))
            · exact .inl (.inr ⟨o, by rw [upd_ne (fun z => by rw [z, hF8] at h; cases h)]; exact h⟩)
            · exact .inr h
          have D2F : D2 ≠ F := fun z => by rw [z, hF8] at hD2; cases hD2
          refine ⟨hF8, D2, us3, ps, rfl, .inl (.inl (by rw [upd_ne D2F]; exact hD2)), hT.imp keep, fun z hz => ?_, by omega, fun o z H9 hb e9 hz => q o z H9 ?_ ?_ hz⟩
          · obtain ⟨r, hr, e1⟩ := Tm.sumAt_mem (odd z hz)
            obtain ⟨e, he, c, hc, e2⟩ := rows_mem hr
            obtain ⟨_, _, c3⟩ := Tm.cuts3_mem hc
            have el := (len e he).1
            have e3 : (z.1, z.2) = (c.1, c.2.2) := e1.symm.trans e2
            rw [Prod.mk.injEq] at e3
            rw [e3.1, e3.2]
            omega
          · have iff : ∀ u v, (u, v) ∈ ps ↔ Tm.sumAt (Tm.rows x y ts) u v ≠ 0 := fun u v => by
              constructor
              · intro h
                exact odd _ h
              · intro h
                obtain ⟨kv, hkv, ek⟩ := acc.there h
                obtain ⟨m, hm⟩ := List.getElem?_of_mem hkv
                exact all m (List.getElem?_eq_some_iff.mp hm).1 kv hm u v ek h
            cases o with
            | none => exact fun u v h => hb u v ((iff u v).mpr h)
            | some m => exact ⟨(iff _ _).mp hb.1, fun u v h => hb.2 u v ((iff u v).mpr h)⟩
          · refine Ex.trans (fun b o hb => ?_) e9
            obtain ⟨ne, h⟩ := eL b o hb
            rw [upd_ne ne]
            exact e8 b o h
end
end K15
set_option Elab.async false
set_option linter.all false
set_option maxRecDepth 100000
set_option maxHeartbeats 4000000
namespace K15
open PySem PySem.Spec PyProof.Rows L2 Evl Bx
open Rx
section
variable {P : Program} {w : World} {K : PySem.W.Frag} {mg : Str → Option Value} {base : Heap}
theorem tw_pairs {β : Type} {f : β → List V} {H : Hp} : ∀ {us : List V} {bs : List β}, Nd.TW K H f us bs → ∃ qs : List (Addr × β), us = qs.map (fun b => V.ref b.1) ∧ qs.map (·.2) = bs ∧ ∀ b ∈ qs, SqT K H b.1 (f b.2)
  | [], [], _ => ⟨[], rfl, rfl, fun b hb => absurd hb List.not_mem_nil⟩
  | v :: vs, b :: bs, ⟨⟨q, e, h⟩, r⟩ => by
    obtain ⟨qs, e1, e2, e3⟩ := tw_pairs r
    refine ⟨(q, b) :: qs, by rw [e, e1]; rfl, by rw [List.map_cons, e2], fun c hc => ?_⟩
    rcases List.mem_cons.mp hc with z | z
    · rw [z]; exact h
    · exact e3 c z
  | [], _ :: _, h => h.elim
  | _ :: _, [], h => h.elim
def fV (x : Tm.Wd × Tm.Wd) : List V := [.int ((x.1.length : Int) + (x.2.length : Int)), .int (x.1.length : Int), tx x.1, tx x.2]
def fE (x : Tm.Wd × Tm.Wd) : PyData := .tuple [.int ((x.1.length : Int) + (x.2.length : Int)), .int (x.1.length : Int), .str (mk x.1), .str (mk x.2)]
theorem fE_lt (x y : Tm.Wd × Tm.Wd) : PySem.W.dataLt (fE x) (fE y) = decide (Tm.plt x y) := by
  have ii : ∀ a b : Int, PyData.eqv (.int a) (.int b) = decide (a = b) := fun a b => by
    show (a == b) = _
    by_cases h : a = b
    · rw [h, decide_eq_true rfl]; exact beq_self_eq_true _
    · rw [decide_eq_false h]; exact beq_eq_false_iff_ne.mpr h
  unfold fE
  rw [PySem.W.dataLt_tuple, PySem.W.dataLt_cons (by simp [PySem.W.alike]), PySem.W.dataLt_cons (by simp [PySem.W.alike]), PySem.W.dataLt_cons (by simp [PySem.W.alike]), PySem.W.dataLt_cons (by simp [PySem.W.alike])]
  rw [ii, ii, eqv_str, eqv_str, PySem.W.dataLt_int, PySem.W.dataLt_int, PySem.W.dataLt_str, PySem.W.dataLt_str, mk_list, mk_list, mk_list, mk_list]
  rw [PyProof.Rows.lex_irrefl]
  unfold Tm.plt
  by_cases h1 : (x.1.length : Int) + (x.2.length : Int) = (y.1.length : Int) + (y.2.length : Int)
  · by_cases h2 : (x.1.length : Int) = (y.1.length : Int)
    · have g1 : x.1.length + x.2.length = y.1.length + y.2.length := by omega
      have g2 : x.1.length = y.1.length := by omega
      have g3 : x.2.length = y.2.length := by omega
      by_cases h3 : x.1 = y.1
      · by_cases h5 : x.2 = y.2
        · simp [h1, h2, h3, h5, List.lt_irrefl]
        · simp [h3, h5, g1, g2, g3, List.lt_irrefl]
      · simp [h3, g1, g2, g3]
    · have g1 : x.1.length + x.2.length = y.1.length + y.2.length := by omega
      have g2 : x.1.length ≠ y.1.length := by omega
      simp [h1, h2, g1, g2]
  · have g1 : x.1.length + x.2.length ≠ y.1.length + y.2.length := by omega
    simp only [h1, decide_false, Bool.false_eq_true, if_false]
    refine decide_eq_decide.mpr ⟨fun h => .inl (by omega), fun h => h.elim (fun h => by omega) fun h => absurd h.1 g1⟩
theorem upto_few {L : List Nat} (h : L.length ≤ 2) {k : Nat} (hk : k ≤ 5) : L.length ^ k ≤ 400 ∧ (Lx.upto L k).length ≤ 63 := by
  have g : ∀ a ≤ 2, ∀ k ≤ 5, a ^ k ≤ 32 := by decide
  refine ⟨Nat.le_trans (g _ h _ hk) (by decide), ?_⟩
  have s : ∀ m ≤ 5, (Lx.upto L m).length ≤ 2 ^ (m + 1) - 1 := by
    intro m
    induction m with
    | zero => intro _; exact Nat.le_refl 1
    | succ m ih =>
      intro hm
      have := ih (by omega)
      rw [Lx.upto, List.length_append, Lx.wd_len]
      have p : L.length ^ (m + 1) ≤ 2 ^ (m + 1) := Nat.pow_le_pow_left h _
      have e : 2 ^ (m + 1 + 1) = 2 ^ (m + 1) + 2 ^ (m + 1) := by rw [Nat.pow_succ]; omega
      have pos : 0 < 2 ^ (m + 1) := Nat.pow_pos (by decide)
      omega
  have := s k hk
  have e : 2 ^ (k + 1) ≤ 2 ^ 6 := Nat.pow_le_pow_right (by decide) (by omega)
  omega
/-- the pairs of texts of at most m letters -/
structure Prs (L : List Nat) (m i j : Nat) (ps : List (Tm.Wd × Tm.Wd)) : Prop where
  sound : ∀ z ∈ ps, z.1.length + z.2.length ≤ m ∧ (∀ c ∈ z.1, c ∈ L) ∧ ∀ c ∈ z.2, c ∈ L
  all : ∀ k t, (Lx.upto L m)[k]? = some t → ∀ n v, (Lx.upto L (m - t.length))[n]? = some v → (k < i ∨ (k = i ∧ n < j)) → (t, v) ∈ ps
def sp_law_pairs (K : PySem.W.Frag) : Sp := fun vs H Q _ => ∃ (L : List Nat) (m : Nat), vs = [tx L, .int (m : Nat)] ∧ 1 ≤ L.length ∧ L.length ≤ 2 ∧ m ≤ 5 ∧ Low L ∧
  ∀ p us ps H', Ex H H' → H p = none → H' p = some (.lst us) → Nd.TW K H' prV2 us ps → (∀ u v, (u, v) ∈ ps ↔ (u.length + v.length ≤ m ∧ (∀ c ∈ u, c ∈ L) ∧ ∀ c ∈ v, c ∈ L)) → ps.Pairwise (fun a b => ¬ Tm.plt b a) → Q (.ref p) H'
theorem ok__law_pairs (T : Tx K mg) : FnOk P w K mg base CX0 2 T.a__law_pairs T.fd__law_pairs ["_law_signs_here", "_law_most"] (sp_law_pairs K) := by
  refine T.F__law_pairs.ok sc__law_pairs (fun vs H Q E h => ?_) (fun cdv A outer s H vs Q E hr h => ?_)
  · obtain ⟨_, _, rfl, _⟩ := h
    rfl
  · obtain ⟨L, m, rfl, l1, l2, m5, lL, q⟩ := h
    refine ⟨_, (pss_cons (ps_set (i := 2) sc__law_pairs.nd rfl (by first | exact Or.inl rfl | exact Or.inr rfl) (pe_lst pa_nil)) (pss_cons (ps_for PassesOwn.never rfl (pi_list (pe_call (ok__law_all_texts T) (hr.mono (by decide)) (by rfl) T.g__law_all_texts T.F__law_all_texts.kp (b__law_all_texts T) .nil pass0 (pa_cons (pv 0) (pa_cons (pv 1) pa_nil)))) (pg_name (i := 3) sc__law_pairs.nd rfl (by first | exact Or.inl rfl | exact Or.inr rfl)) (pss_one (ps_for PassesOwn.never rfl (pi_list (pe_call (ok__law_all_texts T) (hr.mono (by decide)) (by rfl) T.g__law_all_texts T.F__law_all_texts.kp (b__law_all_texts T) .nil pass0 (pa_cons (pv 0) (pa_cons (pe_op op_sub (pv 1) (pe_callB call_len_str (by rfl) T.n_len (by decide +kernel) (pa_cons (pv 3) pa_nil))) pa_nil)))) (pg_name (i := 4) sc__law_pairs.nd rfl (by first | exact Or.inl rfl | exact Or.inr rfl)) (pss_one (ps_expr (pe_bm PySem.F.plainAttrs_list PySem.F.slot_list_append PySem.F.type_list_append mt_append (pv 2) (pa_cons (pe_tup (pa_cons (pe_op op_add (pe_callB call_len_str (by rfl) T.n_len (by decide +kernel) (pa_cons (pv 3) pa_nil)) (pe_callB call_len_str (by rfl) T.n_len (by decide +kernel) (pa_cons (pv 4) pa_nil))) (pa_cons (pe_callB call_len_str (by rfl) T.n_len (by decide +kernel) (pa_cons (pv 3) pa_nil)) (pa_cons (pv 3) (pa_cons (pv 4) pa_nil))))) pa_nil))))))) (pss_one (ps_ret (pe_lc (own := [("_law_both", 5), ("_law_size", 6), ("_law_first", 3), ("_law_last", 4)]) (g := (gTup K 4 (gCons (gName 5) (gCons (gName 6) (gCons (gName 3) (gCons (gName 4) gNil)))))) (tt := tYes) rfl sc__law_pairs.nd (pi_list (pe_callB (Rx.cr_sortD hr.units) (by rfl) T.n_sorted (by decide +kernel) (pa_cons (pv 2) pa_nil))) (blkOk_by (own := [("_law_both", 5), ("_law_size", 6), ("_law_first", 3), ("_law_last", 4)]) (N := N__law_pairs) (sc := defScope s__law_pairs) (by decide +kernel)) (fun _ _ _ _ _ => (pg_tup (by rfl) (pgs_cons (pg_name (i := 5) sc__law_pairs.nd rfl (by first | exact Or.inl rfl | exact Or.inr rfl)) (pgs_cons (pg_name (i := 6) sc__law_pairs.nd rfl (by first | exact Or.inl rfl | exact Or.inr rfl)) (pgs_cons (pg_name (i := 3) sc__law_pairs.nd rfl (by first | exact Or.inl rfl | exact Or.inr rfl)) (pgs_cons (pg_name (i := 4) sc__law_pairs.nd rfl (by first | exact Or.inl rfl | exact Or.inr rfl)) pgs_nil)))))) (fun _ _ _ _ _ => pts_nil) (fun _ _ _ _ _ => (pe_tup (pa_cons (pv 3) (pa_cons (pv 4) pa_nil))))))))), ?_⟩
    have small : ∀ k, k ≤ m → L.length ^ k ≤ 400 ∧ (Lx.upto L k).length ≤ 400 := fun k hk => by
      have := upto_few l2 (k := k) (by omega)
      exact ⟨this.1, by omega⟩
    refine ⟨Nat.zero_le _, fun pf npf => ?_⟩
    have e1 := ex_upd (o := .lst []) npf
    have hpf1 : upd H pf (.lst []) pf = some (.lst []) := upd_same
    generalize upd H pf (.lst []) = H1 at e1 hpf1 ⊢
    refine ⟨_, rfl, _, rfl, L, m, rfl, l1, by omega, by omega, small, fun H2 pt e2 npt hpt => ⟨pt, rfl, ⟨_, .inl (.inl hpt)⟩, ?_⟩⟩
    have e02 := e1.trans e2
    have hpf2 := e2 _ _ hpf1
    have ptf : pt ≠ pf := fun z => by rw [z, hpf1] at npt; cases npt
    have lenF := (upto_few l2 (k := m) m5).2
    refine for_list (xs := (Lx.upto L m).map tx) (fun i σ H3 => ∃ ps ws y3 y4, σ = [some (tx L), some (.int (m : Nat)), some (.ref pf), y3, y4, none, none] ∧ Ex H H3 ∧ H3 pt = some (.lst ((Lx.upto L m).map tx)) ∧ H3 pf = some (.lst ws) ∧ Nd.TW K H3 fV ws ps ∧ Prs L m i 0 ps ∧ ps.length ≤ 63 * i) ⟨[], [], _, _, rfl, e02, hpt, hpf2, trivial, ⟨fun z hz => absurd hz List.not_mem_nil, fun k t _ n v _ h => by omega⟩, Nat.zero_le _⟩ (fun i σ H3 _ ⟨_, _, _, _, _, _, h, _⟩ => .inl (.inl h)) (fun i x σ H3 hx hp => ?_) (fun σ H3 hp => ?_)
    · obtain ⟨ps, ws, y3, y4, rfl, e3, hpt3, hpf3, hW, pr, pl⟩ := hp
      rw [List.getElem?_map] at hx
      cases hf : (Lx.upto L m)[i]? with
      | none => rw [hf] at hx; cases hx
      | some t =>
      rw [hf] at hx
      cases hx
      obtain ⟨tm, tL⟩ := Tm.upto_mem.mp (List.mem_of_getElem? hf)
      have il : i < (Lx.upto L m).length := (List.getElem?_eq_some_iff.mp hf).1
      have ec : (m : Int) - ((mk t).length : Int) = ((m - t.length : Nat) : Int) := by rw [mk_len]; omega
      refine ⟨_, rfl, _, rfl, _, rfl, mk t, rfl, by rw [mk_len]; exact sz_of (by omega), _, _, rfl, rfl, L, m - t.length, by show [tx L, V.int ((m : Int) - ((mk t).length : Int))] ++ [] = _; rw [ec]; rfl, l1, by omega, by omega, fun k hk => small k (by omega), fun H4 pu e4 npu hpu => ⟨pu, rfl, ⟨_, .inl (.inl hpu)⟩, ?_⟩⟩
      have hpf4 := e4 _ _ hpf3
      have puf : pu ≠ pf := fun z => by rw [z, hpf3] at npu; cases npu
      have lenG := (upto_few l2 (k := m - t.length) (by omega)).2
      refine for_list (xs := (Lx.upto L (m - t.length)).map tx) (fun j σ H5 => ∃ ps ws y4, σ = [some (tx L), some (.int (m : Nat)), some (.ref pf), some (tx t), y4, none, none] ∧ Ex H H5 ∧ H5 pt = some (.lst ((Lx.upto L m).map tx)) ∧ H5 pu = some (.lst ((Lx.upto L (m - t.length)).map tx)) ∧ H5 pf = some (.lst ws) ∧ Nd.TW K H5 fV ws ps ∧ Prs L m i j ps ∧ ps.length ≤ 63 * i + j) ⟨ps, ws, _, rfl, e3.trans e4, e4 _ _ hpt3, hpu, hpf4, hW.ex e4, pr, by omega⟩ (fun j σ H5 _ ⟨_, _, _, _, _, _, h, _⟩ => .inl (.inl h)) (fun j x σ H5 hx hp => ?_) (fun σ H5 hp => ?_)
      · obtain ⟨ps, ws, y4, rfl, e5, hpt5, hpu5, hpf5, hW, pr, pl⟩ := hp
        rw [List.getElem?_map] at hx
        cases hg : (Lx.upto L (m - t.length))[j]? with
        | none => rw [hg] at hx; cases hx
        | some v =>
        rw [hg] at hx
        cases hx
        obtain ⟨vm, vL⟩ := Tm.upto_mem.mp (List.mem_of_getElem? hg)
        have jl : j < (Lx.upto L (m - t.length)).length := (List.getElem?_eq_some_iff.mp hg).1
        have wsl := hW.len
        refine ⟨_, rfl, .inl ⟨rfl, _, .inl (.inl hpf5)⟩, _, rfl, mk t, rfl, by rw [mk_len]; exact sz_of (by omega), _, rfl, mk v, rfl, by rw [mk_len]; exact sz_of (by omega), _, _, rfl, rfl, _, rfl, mk t, rfl, by rw [mk_len]; exact sz_of (by omega), _, rfl, _, rfl, ?_⟩
        rw [mk_len, mk_len]
        refine ⟨sz_of (by show 4 ≤ 100000; omega), fun z nz => ?_⟩
        have pz : pf ≠ z := ex_ne hpf5 nz
        refine ⟨pf, ws, _, rfl, rfl, by rw [upd_ne pz]; exact hpf5, sz_lt (by omega), ps ++ [(t, v)], ws ++ [.ref z], _, rfl, (e5.trans (ex_upd nz)).mut npf, by rw [upd_ne ptf]; exact (ex_upd nz) _ _ hpt5, by rw [upd_ne puf]; exact (ex_upd nz) _ _ hpu5, upd_same, ?_, ⟨fun x hx => ?_, fun k s hs n u hu hk => ?_⟩, by rw [List.length_append]; show ps.length + 1 ≤ _; omega⟩
        · exact ((hW.ex (ex_upd nz)).imp fun q xs h => sqT_upL (by rw [upd_ne pz]; exact hpf5) h).snoc (.inl (.inl (by rw [upd_ne pz.symm, upd_same]; rfl)))
        · rcases List.mem_append.mp hx with y | y
          · exact pr.sound x y
          · rw [List.mem_singleton.mp y]
            exact ⟨by show t.length + v.length ≤ m; omega, tL, vL⟩
        · by_cases new : k = i ∧ n = j
          · obtain ⟨rfl, rfl⟩ := new
            rw [hf] at hs
            cases hs
            rw [hg] at hu
            cases hu
            exact List.mem_append_right _ List.mem_cons_self
          · exact List.mem_append_left _ (pr.all k s hs n u hu (by omega))
      · obtain ⟨ps, ws, y4, rfl, e5, hpt5, hpu5, hpf5, hW, pr, pl⟩ := hp
        rw [List.length_map] at pr pl
        refine ⟨ps, ws, _, _, rfl, e5, hpt5, hpf5, hW, ⟨pr.sound, fun k s hs n u hu hk => pr.all k s hs n u hu ?_⟩, by omega⟩
        by_cases y : k = i
        · subst y
          rw [hf] at hs
          cases hs
          exact .inr ⟨rfl, (List.getElem?_eq_some_iff.mp hu).1⟩
        · exact .inl (by omega)
    · obtain ⟨ps, ws, y3, y4, rfl, e8, hpt8, hpf8, hW, pr, pl⟩ := hp
      rw [List.length_map] at pr pl
      obtain ⟨qs, hq1, hq2, hq3⟩ := tw_pairs hW
      rw [hq1] at hpf8
      have pql : qs.length = ps.length := by rw [← hq2, List.length_map]
      have low2 : ∀ b ∈ qs, Low b.2.1 ∧ Low b.2.2 := fun b hb => by
        have := pr.sound b.2 (by rw [← hq2]; exact List.mem_map_of_mem (f := (·.2)) hb)
        exact ⟨fun c hc => lL c (this.2.1 c hc), fun c hc => lL c (this.2.2 c hc)⟩
      refine ⟨_, rfl, pf, _, qs, fun b => .ref b.1, fun b => fE b.2, rfl, .inl (.inl hpf8), fun b hb => .tup (hq3 b hb) (.cons (.int _) (.cons (.int _) (.cons (.str _) (.cons (.str _) .nil)))), ?_, ?_, fun b _ => by show max 0 (max 0 (max 0 (max 0 0))) + 1 ≤ 8; decide, fun pS npS => ?_⟩
      · exact PySem.W.AllAlike.of fun _ _ => by unfold fE; simp [PySem.W.alike, PySem.W.alikeAll]
      · exact PySem.W.Sortable.tuples fun b => ⟨_, _, rfl⟩
      · have eS := ex_upd (o := .lst ((qs.mergeSort (PySem.W.dataLe false fun b => fE b.2)).map fun b => V.ref b.1)) npS
        have le_ : ∀ b c : Addr × (Tm.Wd × Tm.Wd), PySem.W.dataLe false (fun b => fE b.2) b c = decide (¬ Tm.plt c.2 b.2) := fun b c => by
          show (!PySem.W.dataLt (fE c.2) (fE b.2)) = _
          rw [fE_lt]
          by_cases h : Tm.plt c.2 b.2 <;> simp [h]
        have perm := List.mergeSort_perm qs (PySem.W.dataLe false fun b => fE b.2)
        have srt : (qs.mergeSort (PySem.W.dataLe false fun b => fE b.2)).Pairwise fun b c => ¬ Tm.plt c.2 b.2 := by
          have := List.pairwise_mergeSort (le := PySem.W.dataLe false fun b : Addr × (Tm.Wd × Tm.Wd) => fE b.2) (fun a b c h h' => ?_) (fun a b => ?_) qs
          · exact this.imp fun {b c} h => of_decide_eq_true (by rw [← le_]; exact h)
          · rw [le_] at h h' ⊢
            exact decide_eq_true (plt_ntr (of_decide_eq_true h') (of_decide_eq_true h))
          · rw [le_, le_]
            by_cases z : Tm.plt b.2 a.2
            · have : ¬ Tm.plt a.2 b.2 := plt_asym z
              simp [z, this]
            · simp [z]
        generalize qs.mergeSort (PySem.W.dataLe false fun b => fE b.2) = sb at eS perm srt ⊢
        have hpS : upd H3 pS (.lst (sb.map fun b => V.ref b.1)) pS = some (.lst (sb.map fun b => V.ref b.1)) := upd_same
        have hsb : ∀ b ∈ sb, SqT K (upd H3 pS (.lst (sb.map fun b => V.ref b.1))) b.1 (fV b.2) := fun b hb => ex_t eS (hq3 b (perm.mem_iff.mp hb))
        generalize upd H3 pS (.lst (sb.map fun b => V.ref b.1)) = H9 at eS hpS hsb ⊢
        have e09 := e8.trans eS
        have sbl : sb.length = qs.length := perm.length_eq
        refine ⟨pS, rfl, ⟨_, .inl (.inl hpS)⟩, fun D3 nD3 => ?_⟩
        refine lc_list (xs := sb.map fun b => V.ref b.1) (fun i H10 => ∃ ac, Ex H9 H10 ∧ H10 D3 = some (.lst ac) ∧ Nd.TW K H10 prV2 ac ((sb.take i).map (·.2))) ⟨[], ex_upd nD3, upd_same, trivial⟩ (fun i H10 _ ⟨_, e10, _⟩ => .inl (.inl (e10 _ _ hpS))) (fun i v H10 hv ⟨ac, e10, hD, hA⟩ => ?_) (fun H10 ⟨ac, e10, hD, hA⟩ => ?_)
        · rw [List.getElem?_map] at hv
          cases hb : sb[i]? with
          | none => rw [hb] at hv; cases hv
          | some b =>
          rw [hb] at hv
          cases hv
          have ib : i < sb.length := (List.getElem?_eq_some_iff.mp hb).1
          have al := hA.len
          rw [List.length_map, List.length_take] at al
          refine ⟨b.1, _, rfl, ex_t e10 (hsb b (List.mem_of_getElem? hb)), rfl, _, _, rfl, _, _, rfl, _, _, rfl, _, _, rfl, rfl, rfl, ?_⟩
          dsimp only [tYes]
          refine iteT ⟨_, rfl, _, rfl, sz_of (by show 2 ≤ 100000; omega), fun t nt => ?_⟩
          have Dt : D3 ≠ t := ex_ne hD nt
          refine ⟨ac, by rw [upd_ne Dt]; exact hD, sz_lt (by omega), ac ++ [.ref t], (e10.trans (ex_upd nt)).mut nD3, upd_same, ?_⟩
          rw [take_one hb, List.map_append]
          exact ((hA.ex (ex_upd nt)).imp fun q xs h => sqT_upL (by rw [upd_ne Dt]; exact hD) h).snoc (.inl (.inl (by rw [upd_ne Dt.symm, upd_same]; rfl)))
        · rw [List.length_map, List.take_length] at hA
          have e010 := e09.trans e10
          refine q D3 ac (sb.map (·.2)) H10 e010 (exn e09 nD3) hD hA (fun u v => ?_) ?_
          · have m1 : (u, v) ∈ sb.map (·.2) ↔ (u, v) ∈ ps := by
              rw [← hq2, List.mem_map, List.mem_map]
              exact ⟨fun ⟨b, hb, e⟩ => ⟨b, perm.mem_iff.mp hb, e⟩, fun ⟨b, hb, e⟩ => ⟨b, perm.mem_iff.mpr hb, e⟩⟩
            rw [m1]
            constructor
            · exact fun h => pr.sound _ h
            · rintro ⟨hl, hu, hv⟩
              obtain ⟨k, hk⟩ := List.getElem?_of_mem (Tm.upto_mem.mpr ⟨(by omega : u.length ≤ m), hu⟩)
              obtain ⟨n, hn⟩ := List.getElem?_of_mem (Tm.upto_mem.mpr ⟨(by omega : v.length ≤ m - u.length), hv⟩)
              exact pr.all k u hk n v hn (.inl (List.getElem?_eq_some_iff.mp hk).1)
          · rw [List.pairwise_map]
            exact srt
end
end K15
set_option Elab.async false
set_option linter.all false
set_option maxRecDepth 100000
set_option maxHeartbeats 4000000
namespace K15
open PySem PySem.Spec PyProof.Rows L2 Evl Bx
open Rx
section
variable {P : Program} {w : World} {K : PySem.W.Frag} {mg : Str → Option Value} {base : Heap}
def sp_law_gap (K : PySem.W.Frag) : Sp := fun vs H Q _ => ∃ (a : Addr) (ts : Tm.Terms) (f l x y : Tm.Wd), vs = [.ref a, tx f, tx l, tx x, tx y] ∧ TL K H a ts ∧ Fine ts ∧ f.length ≤ 100 ∧ l.length ≤ 100 ∧ x.length ≤ 100 ∧ y.length ≤ 100 ∧ ∀ H', Ex H H' → Q (.int (Tm.worth ts (f ++ (x ++ l)) - Tm.worth ts (f ++ (y ++ l)))) H'
theorem ok__law_gap (T : Tx K mg) : FnOk P w K mg base CX0 3 T.a__law_gap T.fd__law_gap ["_law_terms_here", "_law_first", "_law_last", "_law_one", "_law_other"] (sp_law_gap K) := by
  refine T.F__law_gap.ok sc__law_gap (fun vs H Q E h => ?_) (fun cdv A outer s H vs Q E hr h => ?_)
  · obtain ⟨_, _, _, _, _, _, rfl, _⟩ := h
    rfl
  · obtain ⟨a, ts, f, l, x, y, rfl, hT, fi, fl, ll, xl, yl, q⟩ := h
    refine ⟨_, (pss_one (ps_ret (pe_op op_sub (pe_call (ok__law_worth T) (hr.mono (by decide)) (by rfl) T.g__law_worth T.F__law_worth.kp (b__law_worth T) .nil pass0 (pa_cons (pv 0) (pa_cons (pe_op op_add_str (pe_op op_add_str (pv 1) (pv 3)) (pv 2)) pa_nil))) (pe_call (ok__law_worth T) (hr.mono (by decide)) (by rfl) T.g__law_worth T.F__law_worth.kp (b__law_worth T) .nil pass0 (pa_cons (pv 0) (pa_cons (pe_op op_add_str (pe_op op_add_str (pv 1) (pv 4)) (pv 2)) pa_nil)))))), ?_⟩
    refine ⟨_, rfl, _, rfl, _, rfl, mk f, mk x, rfl, rfl, by rw [mk_len, mk_len]; exact sz_of (by omega), ?_⟩
    rw [mk_app]
    refine ⟨_, rfl, mk (f ++ x), mk l, rfl, rfl, by rw [mk_len, mk_len, List.length_append]; exact sz_of (by omega), ?_⟩
    rw [mk_app]
    refine ⟨a, ts, f ++ x ++ l, rfl, hT, fi, by rw [List.length_append, List.length_append]; omega, fun H1 e1 => ?_⟩
    refine ⟨_, rfl, _, rfl, _, rfl, mk f, mk y, rfl, rfl, by rw [mk_len, mk_len]; exact sz_of (by omega), ?_⟩
    rw [mk_app]
    refine ⟨_, rfl, mk (f ++ y), mk l, rfl, rfl, by rw [mk_len, mk_len, List.length_append]; exact sz_of (by omega), ?_⟩
    rw [mk_app]
    refine ⟨a, ts, f ++ y ++ l, rfl, hT.ex e1, fi, by rw [List.length_append, List.length_append]; omega, fun H2 e2 => ?_⟩
    refine ⟨_, _, rfl, rfl, ?_⟩
    rw [List.append_assoc, List.append_assoc]
    exact q H2 (e1.trans e2)
/-- the pairs of texts at which an exchange changes the worth -/
def PairW (L : List Nat) (D : Nat) (ts : Tm.Terms) (x y u v : Tm.Wd) : Prop := (u.length + v.length ≤ D - 1 ∧ (∀ c ∈ u, c ∈ L) ∧ ∀ c ∈ v, c ∈ L) ∧ Tm.worth ts (u ++ (x ++ v)) - Tm.worth ts (u ++ (y ++ v)) ≠ 0
def sp_law_first (K : PySem.W.Frag) : Sp := fun vs H Q _ => ∃ (L : List Nat) (a : Addr) (ts : Tm.Terms) (x y : Tm.Wd) (D : Nat), vs = [tx L, .ref a, tx x, tx y] ∧ TL K H a ts ∧ Fine ts ∧ ts.length ≤ 1000 ∧ 1 ≤ L.length ∧ L.length ≤ 2 ∧ D ≤ 5 ∧ Low L ∧ x.length ≤ 100 ∧ y.length ≤ 100 ∧ (∀ e ∈ ts, e.1.length ≤ D) ∧ (D = 0 ∨ ∃ e ∈ ts, e.1.length = D) ∧
  ∀ o z H', Tm.Best (PairW L D ts x y) o → Ex H H' → PairAt K H' z o → Q z H'
theorem ok__law_first_pair (T : Tx K mg) : FnOk P w K mg base CX0 4 T.a__law_first_pair T.fd__law_first_pair ["_law_signs_here", "_law_terms_here", "_law_one", "_law_other"] (sp_law_first K) := by
  refine T.F__law_first_pair.ok sc__law_first_pair (fun vs H Q E h => ?_) (fun cdv A outer s H vs Q E hr h => ?_)
  · obtain ⟨_, _, _, _, _, _, rfl, _⟩ := h
    rfl
  · obtain ⟨L, a, ts, x, y, D, rfl, ⟨us, hS, hT⟩, fi, few, l1, l2, d5, lL, xl, yl, lenD, topD, q⟩ := h
    refine ⟨_, (pss_cons (ps_set (i := 4) sc__law_first_pair.nd rfl (by first | exact Or.inl rfl | exact Or.inr rfl) (pe_callB (cr_max rfl) (by rfl) T.n_max (by decide +kernel) (pa_cons (pe_op op_cat (pe_lst (pa_cons pe_int pa_nil)) (pe_lc (own := [("_law_word_here", 5), ("_law_number_here", 6)]) (g := (gTup K 2 (gCons (gName 5) (gCons (gName 6) gNil)))) (tt := tYes) rfl sc__law_first_pair.nd (pi_list (pv 1)) (blkOk_by (own := [("_law_word_here", 5), ("_law_number_here", 6)]) (N := N__law_first_pair) (sc := defScope s__law_first_pair) (by decide +kernel)) (fun _ _ _ _ _ => (pg_tup (by rfl) (pgs_cons (pg_name (i := 5) sc__law_first_pair.nd rfl (by first | exact Or.inl rfl | exact Or.inr rfl)) (pgs_cons (pg_name (i := 6) sc__law_first_pair.nd rfl (by first | exact Or.inl rfl | exact Or.inr rfl)) pgs_nil)))) (fun _ _ _ _ _ => pts_nil) (fun _ _ _ _ _ => (pe_callB call_len_str (by rfl) T.n_len (by decide +kernel) (pa_cons (pv 5) pa_nil))))) pa_nil))) (pss_cons (ps_for PassesOwn.never rfl (pi_list (pe_call (ok__law_pairs T) (hr.mono (by decide)) (by rfl) T.g__law_pairs T.F__law_pairs.kp (b__law_pairs T) .nil pass0 (pa_cons (pv 0) (pa_cons (pe_callB (call_max2 rfl) (by rfl) T.n_max (by decide +kernel) (pa_cons pe_int (pa_cons (pe_op op_sub (pv 4) pe_int) pa_nil))) pa_nil)))) (pg_tup (by rfl) (pgs_cons (pg_name (i := 7) sc__law_first_pair.nd rfl (by first | exact Or.inl rfl | exact Or.inr rfl)) (pgs_cons (pg_name (i := 8) sc__law_first_pair.nd rfl (by first | exact Or.inl rfl | exact Or.inr rfl)) pgs_nil))) (pss_one (ps_if (pt_cmpR op_ne (pe_call (ok__law_gap T) (hr.mono (by decide)) (by rfl) T.g__law_gap T.F__law_gap.kp (b__law_gap T) .nil pass0 (pa_cons (pv 1) (pa_cons (pv 7) (pa_cons (pv 8) (pa_cons (pv 2) (pa_cons (pv 3) pa_nil)))))) pe_int (nomark _)) (pss_one (ps_ret (pe_tup (pa_cons (pv 7) (pa_cons (pv 8) pa_nil))))) pss_nil))) (pss_one (ps_ret pe_non)))), ?_⟩
    refine ⟨sz_of (by show 1 ≤ 100000; omega), fun p1 np1 => ⟨_, rfl, a, rfl, ⟨_, ex_l (ex_upd np1) hS⟩, fun D2 nD2 => ?_⟩⟩
    have ul := hT.len
    refine lc_list (xs := us) (fun i H4 => Ex (upd H p1 (.lst [V.int 0])) H4 ∧ H4 D2 = some (.lst (((ts.take i).map fun e => ((e.1.length : Nat) : Int)).map V.int))) ⟨ex_upd nD2, upd_same⟩ (fun i H4 _ ⟨e4, _⟩ => ex_l e4 (ex_l (ex_upd np1) hS)) (fun i v H4 hv ⟨e4, hD⟩ => ?_) (fun H4 ⟨e4, hD2⟩ => ?_)
    · obtain ⟨e, qq, he, rfl, hq⟩ := (hT.ex (ex_upd (o := .lst [V.int 0]) np1)).at hv
      have el := lenD e (List.mem_of_getElem? he)
      have il : i < ts.length := (List.getElem?_eq_some_iff.mp he).1
      refine ⟨qq, _, rfl, ex_t e4 hq, rfl, _, _, rfl, _, _, rfl, rfl, rfl, ?_⟩
      dsimp only [tYes]
      refine iteT ⟨_, rfl, mk e.1, rfl, by rw [mk_len]; exact sz_of (by omega), _, hD, by rw [List.length_map, List.length_map, List.length_take]; exact sz_lt (by omega), e4.mut nD2, ?_⟩
      rw [upd_same, take_one he, List.map_append, List.map_append, mk_len]
      rfl
    rw [ul, List.take_length] at hD2
    refine ⟨p1, D2, _, _, rfl, rfl, e4 _ _ upd_same, hD2, by rw [List.length_map, List.length_map]; exact sz_of (by show 1 + _ ≤ _; omega), fun p3 np3 => ?_⟩
    have e3 := ((ex_upd (o := .lst [V.int 0]) np1).trans e4).trans (ex_upd (o := .lst ([V.int 0] ++ (ts.map fun e => ((e.1.length : Nat) : Int)).map V.int)) np3)
    have hp3 : upd H4 p3 (.lst ([V.int 0] ++ (ts.map fun e => ((e.1.length : Nat) : Int)).map V.int)) p3 = some (.lst ((0 :: ts.map fun e => ((e.1.length : Nat) : Int)).map V.int)) := upd_same
    generalize upd H4 p3 (.lst ([V.int 0] ++ (ts.map fun e => ((e.1.length : Nat) : Int)).map V.int)) = H5 at e3 hp3 ⊢
    refine ⟨p3, 0 :: ts.map (fun e => ((e.1.length : Nat) : Int)), rfl, .inl (.inl hp3), Nat.succ_pos _, fun m hm hle => ?_⟩
    have hmD : m = (D : Nat) := by
      rcases List.mem_cons.mp hm with z | z
      · rcases topD with y | ⟨e, he, y⟩
        · rw [z, y]; rfl
        · have := hle _ (List.mem_cons_of_mem _ (List.mem_map_of_mem (f := fun e : Tm.Wd × Int => ((e.1.length : Nat) : Int)) he))
          omega
      · obtain ⟨e, he, r⟩ := List.mem_map.mp z
        have b := lenD e he
        rcases topD with y | ⟨f, hf, y⟩
        · omega
        · have := hle _ (List.mem_cons_of_mem _ (List.mem_map_of_mem (f := fun e : Tm.Wd × Int => ((e.1.length : Nat) : Int)) hf))
          omega
    rw [hmD]
    have ec : (if ((D : Int) - 1) > 0 then ((D : Int) - 1) else 0) = ((D - 1 : Nat) : Int) := by
      by_cases z : ((D : Int) - 1) > 0
      · rw [if_pos z]; omega
      · rw [if_neg z]; omega
    refine ⟨_, rfl, _, rfl, _, _, rfl, rfl, _, _, rfl, L, D - 1, by show [tx L, V.int (if ((D : Int) - 1) > 0 then ((D : Int) - 1) else 0)] ++ [] = _; rw [ec]; rfl, l1, l2, by omega, lL, fun p us6 ps H6 e6 np hp hW iff srt => ⟨p, rfl, ⟨_, .inl (.inl hp)⟩, ?_⟩⟩
    have e06 := e3.trans e6
    have wl := hW.len
    refine for_list (xs := us6) (fun i σ H7 => ∃ y7 y8, σ = [some (tx L), some (.ref a), some (tx x), some (tx y), some (.int (D : Nat)), none, none, y7, y8] ∧ Ex H6 H7 ∧ ∀ k < i, ∀ z, ps[k]? = some z → ¬ PairW L D ts x y z.1 z.2) ⟨_, _, rfl, Ex.refl _, fun k hk => by omega⟩ (fun i σ H7 _ ⟨_, _, _, e7, _⟩ => .inl (.inl (e7 _ _ hp))) (fun i v σ H7 hv hpv => ?_) (fun σ H7 hpv => ?_)
    · obtain ⟨y7, y8, rfl, e7, no⟩ := hpv
      obtain ⟨z, qz, hz, rfl, hqz⟩ := hW.at hv
      obtain ⟨zl, zu, zv⟩ := (iff z.1 z.2).mp (List.mem_of_getElem? hz)
      have e07 := e06.trans e7
      refine ⟨qz, _, rfl, ex_t e7 hqz, rfl, _, _, rfl, _, _, rfl, rfl, ?_⟩
      refine ⟨_, rfl, _, rfl, _, rfl, _, rfl, _, rfl, a, ts, z.1, z.2, x, y, rfl, ⟨us, ex_l e07 hS, hT.ex e07⟩, fi, by omega, by omega, xl, yl, fun H8 e8 => ?_⟩
      have e78 := e7.trans e8
      by_cases gz : Tm.worth ts (z.1 ++ (x ++ z.2)) - Tm.worth ts (z.1 ++ (y ++ z.2)) = 0
      · have dz : decide (V.int (Tm.worth ts (z.1 ++ (x ++ z.2)) - Tm.worth ts (z.1 ++ (y ++ z.2))) = V.int 0) = true := decide_eq_true (by rw [gz])
        refine ⟨rfl, false, by show V.bl (!decide (V.int (Tm.worth ts (z.1 ++ (x ++ z.2)) - Tm.worth ts (z.1 ++ (y ++ z.2))) = V.int 0)) = _; rw [dz]; rfl, iteF ?_⟩
        refine ⟨_, _, rfl, e78, fun k hk z' hz' => ?_⟩
        by_cases ki : k = i
        · subst ki
          rw [hz] at hz'
          cases hz'
          exact fun h => h.2 gz
        · exact no k (by omega) z' hz'
      · have dz : decide (V.int (Tm.worth ts (z.1 ++ (x ++ z.2)) - Tm.worth ts (z.1 ++ (y ++ z.2))) = V.int 0) = false := decide_eq_false fun h => gz (V.int.inj h)
        refine ⟨rfl, true, by show V.bl (!decide (V.int (Tm.worth ts (z.1 ++ (x ++ z.2)) - Tm.worth ts (z.1 ++ (y ++ z.2))) = V.int 0)) = _; rw [dz]; rfl, iteT ?_⟩
        refine ⟨_, rfl, _, rfl, sz_of (by show 2 ≤ 100000; omega), fun t nt => ?_⟩
        refine q (some z) (.ref t) _ ⟨⟨⟨zl, zu, zv⟩, gz⟩, fun u v huv lt => ?_⟩ ((e06.trans e78).trans (ex_upd nt)) ⟨t, rfl, .inl (.inl upd_same)⟩
        have m1 := (iff u v).mpr huv.1
        obtain ⟨k, hk⟩ := List.getElem?_of_mem m1
        have kl := (List.getElem?_eq_some_iff.mp hk)
        have il := (List.getElem?_eq_some_iff.mp hz)
        rcases Nat.lt_trichotomy k i with c | c | c
        · exact no k c _ hk huv
        · subst c
          rw [hz] at hk
          cases hk
          exact plt_irr _ lt
        · have := List.pairwise_iff_getElem.mp srt i k il.1 kl.1 c
          rw [il.2, kl.2] at this
          exact this lt
    · obtain ⟨y7, y8, rfl, e7, no⟩ := hpv
      refine q none .non H7 (fun u v huv => ?_) (e06.trans e7) rfl
      obtain ⟨k, hk⟩ := List.getElem?_of_mem ((iff u v).mpr huv.1)
      exact no k (by rw [wl]; exact (List.getElem?_eq_some_iff.mp hk).1) _ hk huv
def LowO : Option (Tm.Wd × Tm.Wd) → Prop
  | none => True
  | some m => Low m.1 ∧ Low m.2
def sp_same (K : PySem.W.Frag) : Sp := fun vs H Q _ => ∃ (z y : V) (o : Option (Tm.Wd × Tm.Wd)), vs = [z, y] ∧ PairAt K H z o ∧ PairAt K H y o ∧ LowO o ∧ Q (.bl true) H
theorem ok__law_same (T : Tx K mg) : FnOk P w K mg base CX0 1 T.a__law_same T.fd__law_same ["_law_told", "_law_due"] (sp_same K) := by
  refine T.F__law_same.ok sc__law_same (fun vs H Q E h => ?_) (fun cdv A outer s H vs Q E hr h => ?_)
  · obtain ⟨_, _, _, rfl, _⟩ := h
    rfl
  · obtain ⟨z, y, o, rfl, hz, hy, lo, q⟩ := h
    refine ⟨_, (pss_cons (ps_if (PW.pt (pw_or (pt_cmpR op_isN (pv 1) pe_non (nomark _)) (pw_or1 (pt_cmpR op_isN (pv 0) pe_non (nomark _))))) (pss_one (ps_ret (pe_and (pe_cmpR op_isN (pv 1) pe_non (nomark _)) (pe_one (pe_cmpR op_isN (pv 0) pe_non (nomark _)))))) pss_nil) (pss_one (ps_ret (pe_and (pe_callB call_isi (by rfl) T.n_isinstance (by decide +kernel) (pa_cons (pv 0) (pa_cons (pe_bltn (v := .ty "tuple") (u := .type "tuple") (by rfl) T.n_tuple (by decide +kernel) rfl) pa_nil))) (pe_one (pe_cmpR (op_eqD hr.units) (pv 0) (pv 1) (nomark _))))))), ?_⟩
    cases o with
    | none =>
      cases hz
      cases hy
      exact ⟨_, rfl, rfl, true, rfl, iteT (iteT ⟨_, rfl, rfl, true, rfl, iteT ⟨_, rfl, rfl, q⟩⟩)⟩
    | some m =>
      obtain ⟨p, rfl, hp⟩ := hz
      obtain ⟨p2, rfl, hp2⟩ := hy
      have dm : ∀ {r : Addr}, SqT K H r (prV2 m) → Dp K H (.ref r) (.tuple [.str (mk m.1), .str (mk m.2)]) := fun h => .tup h (.cons (.str _) (.cons (.str _) .nil))
      have sm : SeqAt.shaped (.tuple [.str (mk m.1), .str (mk m.2)]) = true := by
        have c1 : PyData.canLay0 (.str (mk m.1)) = true := str_ok lo.1
        have c2 : PyData.canLay0 (.str (mk m.2)) = true := str_ok lo.2
        show ((PyData.canLay0 (.str (mk m.1)) && (PyData.canLay0 (.str (mk m.2)) && true)) && decide (max 0 (max 0 0) + 1 ≤ 64)) = true
        rw [c1, c2]
        rfl
      refine ⟨_, rfl, rfl, false, rfl, iteF ⟨_, rfl, rfl, false, rfl, iteF ?_⟩⟩
      refine ⟨_, rfl, _, _, .type "tuple", _, true, rfl, .ty _, ty_tup hp, kit_ty (by decide +kernel), true, rfl, iteT ?_⟩
      refine ⟨_, rfl, _, rfl, _, _, dm hp, dm hp2, sm, sm, ?_⟩
      have e : V.bl (PyData.eqv (.tuple [.str (mk m.1), .str (mk m.2)]) (.tuple [.str (mk m.1), .str (mk m.2)])) = V.bl true := Dx.eq_self sm
      rw [e]
      exact q
end
end K15
set_option Elab.async false
set_option linter.all false
set_option maxRecDepth 100000
set_option maxHeartbeats 4000000
namespace K15
open PySem PySem.Spec PyProof.Rows L2 Evl Bx
open Rx
section
variable {P : Program} {w : World} {K : PySem.W.Frag} {mg : Str → Option Value} {base : Heap}
theorem cutV_to (ac : List V) (k : Nat) : cutV ac none (some ((k : Nat) : Int)) = ac.take k := by
  show (ac.drop (HT.sIx ac.length 0 none)).take (HT.sIx ac.length ac.length (some ((k : Nat) : Int)) - HT.sIx ac.length 0 none) = _
  rw [ix_nat, HT.sIx_none, List.drop_zero, Nat.sub_zero]
  by_cases h : k ≤ ac.length
  · rw [Nat.min_eq_left h]
  · rw [Nat.min_eq_right (by omega), List.take_of_length_le (Nat.le_refl _), List.take_of_length_le (by omega)]
theorem TV.take : ∀ {us : List V} {ts : Tm.Terms} {H : Hp} (k : Nat), TV K H us ts → TV K H (us.take k) (ts.take k)
  | _, _, _, 0, _ => trivial
  | [], [], _, _ + 1, h => h
  | _ :: _, _ :: _, _, k + 1, ⟨a, r⟩ => ⟨a, TV.take k r⟩
  | [], _ :: _, _, _ + 1, h => h.elim
  | _ :: _, [], _, _ + 1, h => h.elim
def ones (t : Tm.Wd) : List (List Nat) := t.map fun c => [c]
theorem ones_eq (t : Tm.Wd) : (Sx.sgs (mk t)).map V.str = (ones t).map tx := by
  unfold ones
  rw [sgs_mk, List.map_map, List.map_map]
  rfl
def eT (u : List Nat) : PyData := .str (mk u)
def inOrder (t : Tm.Wd) : List (List Nat) := (ones t).mergeSort (PySem.W.dataLe false eT)
theorem inOrder_low {t : Tm.Wd} (h : Low t) : ∀ u ∈ inOrder t, Low u := fun u hu => by
  have := (List.mergeSort_perm _ _).mem_iff.mp hu
  obtain ⟨c, hc, rfl⟩ := List.mem_map.mp this
  exact fun d hd => by rw [List.mem_singleton.mp hd]; exact h c hc
def sp_drawn (K : PySem.W.Frag) : Sp := fun vs H Q _ => ∃ (g : Addr) (L : List Nat) (n : Nat), vs = [.ref g, tx L] ∧ 1 ≤ L.length ∧ L.length ≤ 2 ∧ Low L ∧ Gen H g n ∧ n ≤ 2 ^ 38 ∧
  ∀ p ts H', Xg g H H' → LT K H' p ts → Dr L 40 4 (10 ^ 29) ts → Gen H' g (n + 3000) → Q (.ref p) H'
theorem ok__law_drawn (T : Tx K mg) : FnOk P w K mg base CX0 5 T.a__law_drawn T.fd__law_drawn ["_law_generator_here", "_law_signs_here"] (sp_drawn K) := by
  refine T.F__law_drawn.ok sc__law_drawn (fun vs H Q E h => ?_) (fun cdv A outer s H vs Q E hr h => ?_)
  · obtain ⟨_, _, _, rfl, _⟩ := h
    rfl
  · obtain ⟨g, L, n, rfl, l1, l2, lL, gn, n1, q⟩ := h
    refine ⟨_, (pss_cons (ps_set (i := 2) sc__law_drawn.nd rfl (by first | exact Or.inl rfl | exact Or.inr rfl) (pe_call (ok__law_terms T) (hr.mono (by decide)) (by rfl) T.g__law_terms T.F__law_terms.kp (b__law_terms T) .nil pass0 (pa_cons (pv 0) (pa_cons (pv 1) (pa_cons (pe_call (ok__law_random T) (hr.mono (by decide)) (by rfl) T.g__law_random T.F__law_random.kp (b__law_random T) .nil pass0 (pa_cons (pv 0) (pa_cons pe_int pa_nil))) (pa_cons pe_int pa_nil)))))) (pss_cons (ps_if (pt_cmpR op_eq (pe_call (ok__law_random T) (hr.mono (by decide)) (by rfl) T.g__law_random T.F__law_random.kp (b__law_random T) .nil pass0 (pa_cons (pv 0) (pa_cons pe_int pa_nil))) pe_int (nomark _)) (pss_one (ps_ret (pv 2))) pss_nil) (pss_cons (ps_set (i := 3) sc__law_drawn.nd rfl (by first | exact Or.inl rfl | exact Or.inr rfl) (pe_lst pa_nil)) (pss_cons (ps_for PassesOwn.never rfl (pi_list (pe_slice sl_list (pv 2) po_none (po_some pe_int))) (pg_tup (by rfl) (pgs_cons (pg_name (i := 4) sc__law_drawn.nd rfl (by first | exact Or.inl rfl | exact Or.inr rfl)) (pgs_cons (pg_name (i := 5) sc__law_drawn.nd rfl (by first | exact Or.inl rfl | exact Or.inr rfl)) pgs_nil))) (pss_cons (ps_setLc (i := 6) (own := [("_law_text", 7)]) (g := (gName 7))  (by rfl) sc__law_drawn.nd rfl rfl (sw_true rfl rfl rfl (by decide +kernel)) (pi_list (pe_call (ok__law_all_texts T) (hr.mono (by decide)) (by rfl) T.g__law_all_texts T.F__law_all_texts.kp (b__law_all_texts T) .nil pass0 (pa_cons (pv 1) (pa_cons pe_int pa_nil)))) (blkOk_by (own := [("_law_text", 7)]) (N := N__law_drawn) (sc := defScope s__law_drawn) (by decide +kernel)) (fun _ _ _ _ _ => (pg_name (i := 7) sc__law_drawn.nd rfl (by first | exact Or.inl rfl | exact Or.inr rfl))) (fun _ _ _ _ _ => (pts_one (pt_cmpR ((op_eqD hr.units) : OpR _ _ (rEqD K)) (pe_callB ((Rx.cr_sortD hr.units) : CallR _ (.builtin "sorted") (Rx.rSortD K)) (by rfl) T.n_sorted (by decide +kernel) (pa_cons (pe_callTy ((Rx.cr_listS rfl) : CallR _ (.type "list") Rx.rListS) (by rfl) T.n_list (by decide +kernel) (pa_cons (pv 7) pa_nil)) pa_nil)) (pe_callB ((Rx.cr_sortD hr.units) : CallR _ (.builtin "sorted") (Rx.rSortD K)) (by rfl) T.n_sorted (by decide +kernel) (pa_cons (pe_callTy ((Rx.cr_listS rfl) : CallR _ (.type "list") Rx.rListS) (by rfl) T.n_list (by decide +kernel) (pa_cons (pe_slice sl_str (pv 4) po_none (po_some pe_int)) pa_nil)) pa_nil)) (nomark _)))) (fun _ _ _ _ _ => (pv 7))) (pss_one (ps_set (i := 3) sc__law_drawn.nd rfl (by first | exact Or.inl rfl | exact Or.inr rfl) (pe_op op_cat (pv 3) (pe_lc (own := [("_law_text", 7)]) (g := (gName 7)) (tt := tYes) rfl sc__law_drawn.nd (pi_list (pv 6)) (blkOk_by (own := [("_law_text", 7)]) (N := N__law_drawn) (sc := defScope s__law_drawn) (by decide +kernel)) (fun _ _ _ _ _ => (pg_name (i := 7) sc__law_drawn.nd rfl (by first | exact Or.inl rfl | exact Or.inr rfl))) (fun _ _ _ _ _ => pts_nil) (fun _ _ _ _ _ => (pe_tup (pa_cons (pv 7) (pa_cons (pv 5) pa_nil)))))))))) (pss_one (ps_ret (pv 3))))))), ?_⟩
    refine ⟨_, rfl, _, rfl, _, rfl, g, 5, _, rfl, by decide, by decide, gn, by omega, fun r H1 r0 r1 x1 g1 => ?_⟩
    obtain ⟨k, rfl⟩ := Int.eq_ofNat_of_zero_le r0
    refine ⟨g, L, k, 4, _, rfl, l1, by omega, by omega, by omega, g1, by omega, fun pt us ts H2 x2 npt hpt hT dr g2 => ?_⟩
    have dr := dr.up (c' := 40) (B' := 10 ^ 29) (by omega) (Nat.le_refl _)
    have x02 := x1.trans x2
    refine ⟨_, rfl, g, 2, _, rfl, by decide, by decide, g2, by omega, fun r3 H3 r30 r31 x3 g3 => ⟨rfl, _, rfl, ite2 (fun h => ?_) (fun h => ?_)⟩⟩
    · have lt2 : LT K H2 pt ts := ⟨us, hpt, hT⟩
      exact ⟨_, rfl, q pt ts H3 (x02.trans x3) (lt2.xg g2 x3) dr (g3.up (by omega))⟩
    have lt3 : LT K H3 pt ts := LT.xg ⟨us, hpt, hT⟩ g2 x3
    have x03 := x02.trans x3
    clear hpt hT x1 x2 x3 x02 npt g1 g2
    refine ⟨Nat.zero_le _, fun pf npf => ?_⟩
    have fpf : H pf = none := x03.fresh g3.there npf
    have e4 := ex_upd (o := .lst []) npf
    have lt4 := lt3.ex e4
    obtain ⟨us, hpt, hT⟩ := lt4
    have x04 := x03.ex e4
    have g4 := g3.ex e4
    have hpf0 : upd H3 pf (.lst []) pf = some (.lst []) := upd_same
    generalize upd H3 pf (.lst []) = H4 at hpt hT x04 g4 hpf0 ⊢
    refine ⟨_, rfl, 2, rfl, pt, us, rfl, .inl (.inl hpt), fun p3 np3 => ?_⟩
    have c2 : cutV us none (some 2) = us.take 2 := cutV_to us 2
    rw [c2]
    have e5 := ex_upd (o := .lst (us.take 2)) np3
    have hT2 := (TV.take 2 hT).ex e5
    have hp3 : upd H4 p3 (.lst (us.take 2)) p3 = some (.lst (us.take 2)) := upd_same
    have hpf0 := e5 _ _ hpf0
    have x05 := x04.ex e5
    have g5 := g4.ex e5
    generalize upd H4 p3 (.lst (us.take 2)) = H5 at hT2 hp3 hpf0 x05 g5 ⊢
    have tl := hT2.len
    have tl2 : (ts.take 2).length ≤ 2 := by rw [List.length_take]; omega
    have dr2 : ∀ e ∈ ts.take 2, (∀ c ∈ e.1, c ∈ L) ∧ e.1.length ≤ 4 ∧ e.2.natAbs ≤ 10 ^ 29 := fun e he => by
      have := List.mem_of_mem_take he
      exact ⟨dr.over e this, dr.len e this, dr.num e this⟩
    refine ⟨p3, rfl, ⟨_, .inl (.inl hp3)⟩, ?_⟩
    refine for_list (xs := us.take 2) (fun i σ H6 => ∃ pf acc ss y4 y5 y6 y7, σ = [some (.ref g), some (tx L), some (.ref pt), some (.ref pf), y4, y5, y6, y7] ∧ Ex H5 H6 ∧ H pf = none ∧ H6 pf = some (.lst acc) ∧ TV K H6 acc ss ∧ Dr L (15 * i) 4 (10 ^ 29) ss) ⟨pf, [], [], _, _, _, _, rfl, Ex.refl _, fpf, hpf0, trivial, Dr.nil⟩ (fun i σ H6 _ ⟨_, _, _, _, _, _, _, _, e6, _⟩ => .inl (.inl (e6 _ _ hp3))) (fun i v σ H6 hv ⟨pf, acc, ss, y4, y5, y6, y7, hσ, e6, fpf, hpf, hA, da⟩ => ?_) (fun σ H6 ⟨pf, acc, ss, y4, y5, y6, y7, hσ, e6, fpf, hpf, hA, da⟩ => ?_)
    · subst hσ
      obtain ⟨e, qq, he, rfl, hq⟩ := hT2.at hv
      have em := List.mem_of_getElem? he
      have il : i < (ts.take 2).length := (List.getElem?_eq_some_iff.mp he).1
      obtain ⟨eo, el, en⟩ := dr2 e em
      have low1 : Low (e.1.take 3) := fun c hc => lL c (eo c (List.mem_of_mem_take hc))
      refine ⟨qq, _, rfl, ex_t e6 hq, rfl, _, _, rfl, _, _, rfl, rfl, ?_⟩
      have lenF := (upto_few l2 (k := 3) (by omega)).2
      have few15 : (Lx.upto L 3).length ≤ 15 := by
        have : L.length = 1 ∨ L.length = 2 := by omega
        have e1 : (Lx.upto L 3).length = 1 + L.length ^ 1 + L.length ^ 2 + L.length ^ 3 := by
          show ((Lx.upto L 2) ++ _).length = _
          rw [List.length_append, Lx.wd_len]
          congr 1
          show ((Lx.upto L 1) ++ _).length = _
          rw [List.length_append, Lx.wd_len]
          congr 1
          show ((Lx.upto L 0) ++ _).length = _
          rw [List.length_append, Lx.wd_len]
          rfl
        rw [e1]
        rcases this with z | z <;> rw [z] <;> decide
      refine ⟨_, rfl, L, 3, rfl, l1, by omega, by omega, fun k hk => by have := upto_few l2 (k := k) (by omega); exact ⟨this.1, by omega⟩, fun H7 pa e7 npa hpa => ⟨pa, rfl, ⟨_, .inl (.inl hpa)⟩, fun D nD => ?_⟩⟩
      refine lc_list (xs := (Lx.upto L 3).map tx) (fun j H8 => ∃ rs : List Tm.Wd, Ex H7 H8 ∧ H8 D = some (.lst (rs.map tx)) ∧ (∀ r ∈ rs, r ∈ Lx.upto L 3) ∧ rs.length ≤ j) ⟨[], ex_upd nD, upd_same, fun r hr => absurd hr List.not_mem_nil, Nat.zero_le _⟩ (fun j H8 _ ⟨_, e8, _⟩ => .inl (.inl (e8 _ _ hpa))) (fun j v H8 hv ⟨rs, e8, hD, hin, rl⟩ => ?_) (fun H8 ⟨rs, e8, hD, hin, rl⟩ => ?_)
      · rw [List.getElem?_map] at hv
        cases hr : (Lx.upto L 3)[j]? with
        | none => rw [hr] at hv; cases hv
        | some r =>
        rw [hr] at hv
        cases hv
        have jl : j < (Lx.upto L 3).length := (List.getElem?_eq_some_iff.mp hr).1
        obtain ⟨rm, rL⟩ := Tm.upto_mem.mp (List.mem_of_getElem? hr)
        refine ⟨rfl, ?_⟩
        have c3 : cutS (mk e.1) none (some 3) = mk (e.1.take 3) := cut_to e.1 3
        have alike : ∀ t : Tm.Wd, PySem.W.AllAlike ((ones t).map eT) := fun t => PySem.W.AllAlike.of fun _ _ => by unfold eT; simp [PySem.W.alike]
        have sorts : ∀ t : Tm.Wd, PySem.W.Sortable ((ones t).map eT) := fun t => PySem.W.Sortable.others fun _ => ⟨by unfold eT; simp, by unfold eT; simp⟩
        refine ⟨_, rfl, mk r, rfl, by show r.toArray.size ≤ _; rw [List.size_toArray]; omega, fun p1 n1 => ⟨p1, List Nat, ones r, tx, eT, rfl, .inl (.inl (by rw [upd_same, ones_eq])), fun b _ => .str _, alike r, sorts r, fun b _ => by show 0 ≤ 8; omega, fun p2 n2 => ?_⟩⟩
        have e9 := (ex_upd (o := .lst ((Sx.sgs (mk r)).map V.str)) n1).trans (ex_upd (o := .lst (((ones r).mergeSort (PySem.W.dataLe false eT)).map tx)) n2)
        have hp2 : upd (upd H8 p1 (.lst ((Sx.sgs (mk r)).map V.str))) p2 (.lst (((ones r).mergeSort (PySem.W.dataLe false eT)).map tx)) p2 = some (.lst ((inOrder r).map tx)) := upd_same
        generalize upd (upd H8 p1 (.lst ((Sx.sgs (mk r)).map V.str))) p2 (.lst (((ones r).mergeSort (PySem.W.dataLe false eT)).map tx)) = H9 at e9 hp2 ⊢
        refine ⟨_, rfl, 3, rfl, mk e.1, rfl, by rw [mk_len]; exact sz_of (by omega), ?_⟩
        rw [c3]
        have t3 : (e.1.take 3).length ≤ 3 := by rw [List.length_take]; omega
        refine ⟨mk (e.1.take 3), rfl, by show (e.1.take 3).toArray.size ≤ _; rw [List.size_toArray]; omega, fun p3 n3 => ⟨p3, List Nat, ones (e.1.take 3), tx, eT, rfl, .inl (.inl (by rw [upd_same, ones_eq])), fun b _ => .str _, alike _, sorts _, fun b _ => by show 0 ≤ 8; omega, fun p4 n4 => ?_⟩⟩
        have e10 := (ex_upd (o := .lst ((Sx.sgs (mk (e.1.take 3))).map V.str)) n3).trans (ex_upd (o := .lst (((ones (e.1.take 3)).mergeSort (PySem.W.dataLe false eT)).map tx)) n4)
        have hp4 : upd (upd H9 p3 (.lst ((Sx.sgs (mk (e.1.take 3))).map V.str))) p4 (.lst (((ones (e.1.take 3)).mergeSort (PySem.W.dataLe false eT)).map tx)) p4 = some (.lst ((inOrder (e.1.take 3)).map tx)) := upd_same
        generalize upd (upd H9 p3 (.lst ((Sx.sgs (mk (e.1.take 3))).map V.str))) p4 (.lst (((ones (e.1.take 3)).mergeSort (PySem.W.dataLe false eT)).map tx)) = H10 at e10 hp4 ⊢
        have e810 := e9.trans e10
        refine ⟨Dx.dT (inOrder r), Dx.dT (inOrder (e.1.take 3)), Dx.dp_txs (e10 _ _ hp2), Dx.dp_txs hp4, Dx.sh_txs (inOrder_low (lL.sub rL)), Dx.sh_txs (inOrder_low low1), _, rfl, ?_⟩
        by_cases hb : PyData.eqv (Dx.dT (inOrder r)) (Dx.dT (inOrder (e.1.take 3))) = true
        · rw [hb]
          refine iteT ⟨_, rfl, _, e810 _ _ hD, sz_lt (by rw [List.length_map]; omega), rs ++ [r], (e8.trans e810).mut nD, by rw [upd_same, List.map_append]; rfl, fun r' h' => ?_, by rw [List.length_append, List.length_singleton]; omega⟩
          rcases List.mem_append.mp h' with z | z
          · exact hin r' z
          · rw [List.mem_singleton.mp z]
            exact List.mem_of_getElem? hr
        · have hb : PyData.eqv (Dx.dT (inOrder r)) (Dx.dT (inOrder (e.1.take 3))) = false := by simpa using hb
          rw [hb]
          exact iteF ⟨rs, e8.trans e810, e810 _ _ hD, hin, by omega⟩
      · rw [List.length_map] at rl
        have hA8 := hA.ex (e7.trans e8)
        have hpf8 := e8 _ _ (e7 _ _ hpf)
        have e78 := e7.trans e8
        refine ⟨_, rfl, _, rfl, D, rfl, ⟨_, .inl (.inl hD)⟩, fun D2 nD2 => ?_⟩
        refine lc_list (xs := rs.map tx) (fun j H9 => ∃ ac2, Ex H8 H9 ∧ H9 D2 = some (.lst ac2) ∧ TV K H9 ac2 ((rs.take j).map fun r => (r, e.2))) ⟨[], ex_upd nD2, upd_same, trivial⟩ (fun j H9 _ ⟨_, e9, _⟩ => .inl (.inl (e9 _ _ hD))) (fun j v H9 hv ⟨ac2, e9, hD2, hT3⟩ => ?_) (fun H9 ⟨ac2, e9, hD2, hT3⟩ => ?_)
        · rw [List.getElem?_map] at hv
          cases hr : rs[j]? with
          | none => rw [hr] at hv; cases hv
          | some r =>
          rw [hr] at hv
          cases hv
          have jl : j < rs.length := (List.getElem?_eq_some_iff.mp hr).1
          have al := hT3.len
          rw [List.length_map, List.length_take] at al
          refine ⟨rfl, ?_⟩
          dsimp only [tYes]
          refine iteT ⟨_, rfl, _, rfl, sz_of (by show 2 ≤ 100000; omega), fun t nt => ?_⟩
          have Dt : D2 ≠ t := ex_ne hD2 nt
          refine ⟨ac2, by rw [upd_ne Dt]; exact hD2, sz_lt (by omega), ac2 ++ [.ref t], (e9.trans (ex_upd nt)).mut nD2, upd_same, ?_⟩
          rw [take_one hr, List.map_append]
          exact ((hT3.ex (ex_upd nt)).upL (by rw [upd_ne Dt]; exact hD2)).snoc (.inl (.inl (by rw [upd_ne Dt.symm, upd_same])))
        · rw [List.length_map, List.take_length] at hT3
          have al := hA.len
          have bl := hT3.len
          rw [List.length_map] at bl
          have df := da.few
          refine ⟨pf, D2, _, _, rfl, rfl, e9 _ _ hpf8, hD2, sz_of (by omega), fun pn npn => ?_⟩
          have e10 := ex_upd (o := .lst (acc ++ ac2)) npn
          have e610 := (e6.trans e78).trans e9
          refine ⟨pn, acc ++ ac2, ss ++ rs.map (fun r => (r, e.2)), _, _, _, _, rfl, e610.trans e10, (x05.ex e610).fresh (g5.ex e610).there npn, upd_same, ((hA8.ex e9).ex e10).app (hT3.ex e10), ⟨fun x hx => ?_, fun x hx => ?_, by rw [List.length_append, List.length_map]; omega, fun x hx => ?_⟩⟩
          all_goals rcases List.mem_append.mp hx with z | z
          · exact da.over x z
          · obtain ⟨r, hr, rfl⟩ := List.mem_map.mp z
            exact (Tm.upto_mem.mp (hin r hr)).2
          · exact da.len x z
          · obtain ⟨r, hr, rfl⟩ := List.mem_map.mp z
            have := (Tm.upto_mem.mp (hin r hr)).1
            show r.length ≤ 4
            omega
          · exact da.num x z
          · obtain ⟨r, hr, rfl⟩ := List.mem_map.mp z
            exact en
    · subst hσ
      have x06 := x05.ex e6
      have g6 := g5.ex e6
      rw [tl] at da
      have da := da.up (c' := 40) (B' := 10 ^ 29) (by omega) (Nat.le_refl _)
      exact ⟨_, rfl, q pf ss H6 x06 ⟨acc, hpf, hA⟩ da (g6.up (by omega))⟩
end
end K15
set_option Elab.async false
set_option linter.all false
set_option maxRecDepth 100000
set_option maxHeartbeats 4000000
namespace K15
open PySem PySem.Spec PyProof.Rows L2 Evl Bx
open Rx
section
variable {P : Program} {w : World} {K : PySem.W.Frag} {mg : Str → Option Value} {base : Heap}
def sp_two (K : PySem.W.Frag) : Sp := fun vs H Q _ => ∃ (g : Addr) (L : List Nat) (n : Nat), vs = [.ref g, tx L] ∧ 1 ≤ L.length ∧ L.length ≤ 2 ∧ Gen H g n ∧ n ≤ 2 ^ 38 ∧
  ∀ p (x y : Tm.Wd) H', Xg g H H' → SqT K H' p [tx x, tx y] → (∀ c ∈ x, c ∈ L) → (∀ c ∈ y, c ∈ L) → x.length ≤ 7 → y.length ≤ 7 → Gen H' g (n + 200) → Q (.ref p) H'
theorem ok__law_two_texts (T : Tx K mg) : FnOk P w K mg base CX0 4 T.a__law_two_texts T.fd__law_two_texts ["_law_generator_here", "_law_signs_here"] (sp_two K) := by
  refine T.F__law_two_texts.ok sc__law_two_texts (fun vs H Q E h => ?_) (fun cdv A outer s H vs Q E hr h => ?_)
  · obtain ⟨_, _, _, rfl, _⟩ := h
    rfl
  · obtain ⟨g, L, n, rfl, l1, l2, gn, n1, q⟩ := h
    refine ⟨_, (pss_cons (ps_par (i := 2) (j := 3) (by rfl) sc__law_two_texts.nd rfl rfl (by decide) (by rfl) (by rfl) (pa_cons (pe_call (ok__law_word T) (hr.mono (by decide)) (by rfl) T.g__law_word T.F__law_word.kp (b__law_word T) .nil pass0 (pa_cons (pv 0) (pa_cons (pv 1) (pa_cons pe_int (pa_cons pe_int pa_nil))))) (pa_cons (pe_call (ok__law_random T) (hr.mono (by decide)) (by rfl) T.g__law_random T.F__law_random.kp (b__law_random T) .nil pass0 (pa_cons (pv 0) (pa_cons pe_int pa_nil))) pa_nil)) (by rfl)) (pss_cons (ps_set (i := 4) sc__law_two_texts.nd rfl (by first | exact Or.inl rfl | exact Or.inr rfl) (pe_call (ok__law_random T) (hr.mono (by decide)) (by rfl) T.g__law_random T.F__law_random.kp (b__law_random T) .nil pass0 (pa_cons (pv 0) (pa_cons (pe_op op_add (pe_callB call_len_str (by rfl) T.n_len (by decide +kernel) (pa_cons (pv 2) pa_nil)) pe_int) pa_nil)))) (pss_cons (ps_if (pt_cmpR op_eq (pv 3) pe_int (nomark _)) (pss_one (ps_ret (pe_tup (pa_cons (pv 2) (pa_cons (pe_call (ok__law_word T) (hr.mono (by decide)) (by rfl) T.g__law_word T.F__law_word.kp (b__law_word T) .nil pass0 (pa_cons (pv 0) (pa_cons (pv 1) (pa_cons pe_int (pa_cons pe_int pa_nil))))) pa_nil))))) pss_nil) (pss_cons (ps_if (pt_cmpR op_eq (pv 3) pe_int (nomark _)) (pss_one (ps_ret (pe_tup (pa_cons (pv 2) (pa_cons (pe_op op_add_str (pe_slice sl_str (pv 2) (po_some (pv 4)) po_none) (pe_slice sl_str (pv 2) po_none (po_some (pv 4)))) pa_nil))))) pss_nil) (pss_cons (ps_if (pt_cmpR op_eq (pv 3) pe_int (nomark _)) (pss_one (ps_ret (pe_tup (pa_cons (pv 2) (pa_cons (pe_op op_add_str (pe_op op_add_str (pe_slice sl_str (pv 2) po_none (po_some (pv 4))) (pe_slice sl_str (pv 2) (po_some (pv 4)) (po_some (pe_op op_add (pv 4) pe_int)))) (pe_slice sl_str (pv 2) (po_some (pv 4)) po_none)) pa_nil))))) pss_nil) (pss_cons (ps_if (pt_cmpR op_eq (pv 3) pe_int (nomark _)) (pss_one (ps_ret (pe_tup (pa_cons (pv 2) (pa_cons (pe_op op_add_str (pe_slice sl_str (pv 2) po_none (po_some (pv 4))) (pe_slice sl_str (pv 2) (po_some (pe_op op_add (pv 4) pe_int)) po_none)) pa_nil))))) pss_nil) (pss_one (ps_ret (pe_tup (pa_cons (pv 2) (pa_cons (Rx.pe_revS (pv 2) (po_some (pe_un un_neg pe_int))) pa_nil))))))))))), ?_⟩
    refine ⟨_, rfl, _, rfl, g, L, 0, 5, _, rfl, l1, by omega, by omega, by omega, gn, by omega, fun u H1 _ u5 uL x1 g1 => ?_⟩
    refine ⟨_, rfl, g, 5, _, rfl, by decide, by decide, g1, by omega, fun r H2 r0 r1 x2 g2 => ?_⟩
    refine ⟨_, _, rfl, ?_⟩
    refine ⟨_, rfl, _, rfl, mk u, rfl, by rw [mk_len]; exact sz_of (by omega), _, _, rfl, rfl, g, ((u.length + 1 : Nat) : Int), _, by rw [mk_len]; rfl, by omega, by omega, g2, by omega, fun rk H3 k0 k1 x3 g3 => ?_⟩
    obtain ⟨k, rfl⟩ := Int.eq_ofNat_of_zero_le k0
    have x03 := (x1.trans x2).trans x3
    have szu : (mk u).length ≤ sizeLine := by rw [mk_len]; exact sz_of (by omega)
    have g3 := g3.up (m := n + 100) (by omega)
    have fin : ∀ y : Tm.Wd, (∀ c ∈ y, c ∈ u) → y.length ≤ 7 → ∀ t, H3 t = none → Q (.ref t) (upd H3 t (.tup [tx u, tx y])) := fun y yu yl t nt =>
      q t u y _ (x03.ex (ex_upd nt)) (.inl (.inl upd_same)) uL (fun c hc => uL c (yu c hc)) (by omega) yl ((g3.ex (ex_upd nt)).up (by omega))
    have kk : ((k : Nat) : Int) = (k : Int) := rfl
    refine ⟨_, rfl, rfl, _, rfl, ite2 (fun h => ?_) (fun h => ?_)⟩
    · refine ⟨_, rfl, _, rfl, _, rfl, g, L, 0, 5, _, rfl, l1, by omega, by omega, by omega, g3, by omega, fun y H4 _ y5 yL x4 g4 => ?_⟩
      refine ⟨sz_of (by show 2 ≤ 100000; omega), fun t nt => ?_⟩
      exact q t u y _ ((x03.trans x4).ex (ex_upd nt)) (.inl (.inl upd_same)) uL yL (by omega) (by omega) ((g4.ex (ex_upd nt)).up (by omega))
    refine ⟨_, rfl, rfl, _, rfl, ite2 (fun h => ?_) (fun h => ?_)⟩
    · refine ⟨_, rfl, _, rfl, _, rfl, ((k : Nat) : Int), rfl, mk u, rfl, szu, ?_⟩
      rw [cut_from]
      refine ⟨_, rfl, _, rfl, ((k : Nat) : Int), rfl, mk u, rfl, szu, ?_⟩
      rw [cut_to]
      refine ⟨mk (u.drop k), mk (u.take k), rfl, rfl, by rw [mk_len, mk_len, List.length_drop, List.length_take]; exact sz_of (by omega), ?_⟩
      rw [mk_app]
      refine ⟨sz_of (by show 2 ≤ 100000; omega), fun t nt => fin _ (fun c hc => (List.mem_append.mp hc).elim List.mem_of_mem_drop List.mem_of_mem_take) (by rw [List.length_append, List.length_drop, List.length_take]; omega) t nt⟩
    refine ⟨_, rfl, rfl, _, rfl, ite2 (fun h => ?_) (fun h => ?_)⟩
    · refine ⟨_, rfl, _, rfl, _, rfl, ((k : Nat) : Int), rfl, mk u, rfl, szu, ?_⟩
      rw [cut_to]
      refine ⟨_, rfl, _, rfl, ((k : Nat) : Int), rfl, _, rfl, _, _, rfl, rfl, ((k + 2 : Nat) : Int), rfl, mk u, rfl, szu, ?_⟩
      rw [cut_mk, ix_nat, ix_nat]
      have zl : ((u.drop (min k u.length)).take (min (k + 2) u.length - min k u.length)).length ≤ 2 := by rw [List.length_take]; omega
      have zm : ∀ c ∈ (u.drop (min k u.length)).take (min (k + 2) u.length - min k u.length), c ∈ u := fun c hc => List.mem_of_mem_drop (List.mem_of_mem_take hc)
      generalize (u.drop (min k u.length)).take (min (k + 2) u.length - min k u.length) = z at zl zm ⊢
      refine ⟨mk (u.take k), mk z, rfl, rfl, by rw [mk_len, mk_len, List.length_take]; exact sz_of (by omega), ?_⟩
      rw [mk_app]
      refine ⟨_, rfl, _, rfl, ((k : Nat) : Int), rfl, mk u, rfl, szu, ?_⟩
      rw [cut_from]
      refine ⟨mk (u.take k ++ z), mk (u.drop k), rfl, rfl, by rw [mk_len, mk_len, List.length_append, List.length_take, List.length_drop]; exact sz_of (by omega), ?_⟩
      rw [mk_app]
      refine ⟨sz_of (by show 2 ≤ 100000; omega), fun t nt => fin _ (fun c hc => (List.mem_append.mp hc).elim (fun hc => (List.mem_append.mp hc).elim List.mem_of_mem_take (zm c)) List.mem_of_mem_drop) (by rw [List.length_append, List.length_append, List.length_drop, List.length_take]; omega) t nt⟩
    refine ⟨_, rfl, rfl, _, rfl, ite2 (fun h => ?_) (fun h => ?_)⟩
    · refine ⟨_, rfl, _, rfl, _, rfl, ((k : Nat) : Int), rfl, mk u, rfl, szu, ?_⟩
      rw [cut_to]
      refine ⟨_, rfl, _, rfl, _, _, rfl, rfl, ((k + 1 : Nat) : Int), rfl, mk u, rfl, szu, ?_⟩
      rw [cut_from]
      refine ⟨mk (u.take k), mk (u.drop (k + 1)), rfl, rfl, by rw [mk_len, mk_len, List.length_drop, List.length_take]; exact sz_of (by omega), ?_⟩
      rw [mk_app]
      refine ⟨sz_of (by show 2 ≤ 100000; omega), fun t nt => fin _ (fun c hc => (List.mem_append.mp hc).elim List.mem_of_mem_take List.mem_of_mem_drop) (by rw [List.length_append, List.length_drop, List.length_take]; omega) t nt⟩
    · refine ⟨_, rfl, _, rfl, _, rfl, _, rfl, mk u, rfl, rfl, by rw [mk_len]; omega, ?_⟩
      rw [turned_mk]
      exact ⟨sz_of (by show 2 ≤ 100000; omega), fun t nt => fin _ (fun c hc => List.mem_reverse.mp hc) (by rw [List.length_reverse]; omega) t nt⟩
/-! ### what the program finds is what the worths tell -/
abbrev Sx (x y : Tm.Wd) (ts : Tm.Terms) (u v : Tm.Wd) : Prop := Tm.sumAt (Tm.rows x y ts) u v ≠ 0
theorem best_congr {S S' : Tm.Wd → Tm.Wd → Prop} (h : ∀ u v, S u v ↔ S' u v) : ∀ {o}, Tm.Best S o → Tm.Best S' o
  | none, b => fun u v s => b u v ((h u v).mpr s)
  | some m, b => ⟨(h _ _).mp b.1, fun u v s => b.2 u v ((h u v).mpr s)⟩
/-- the pairs of a row: parts of a word of a term -/
theorem row_in {ts : Tm.Terms} {D : Nat} {L : List Nat} (over : ∀ e ∈ ts, ∀ c ∈ e.1, c ∈ L) (lenD : ∀ e ∈ ts, e.1.length ≤ D) {x y : Tm.Wd} {r : Tm.Row} (h : r ∈ Tm.rows x y (Tm.nf ts)) : r.1.1.length + r.1.2.length ≤ D - 1 ∧ (∀ c ∈ r.1.1, c ∈ L) ∧ ∀ c ∈ r.1.2, c ∈ L := by
  obtain ⟨e, he, c, hc, q⟩ := rows_mem h
  obtain ⟨z, hz, zq⟩ := Tm.nf_words ts e he
  obtain ⟨c1, c2, c3⟩ := Tm.cuts3_mem hc
  have l := lenD z hz
  have o := over z hz
  rw [zq] at l o
  rw [q]
  refine ⟨by show c.1.length + c.2.2.length ≤ D - 1; omega, fun d hd => o d ?_, fun d hd => o d ?_⟩
  · rw [← c1]; exact List.mem_append_left _ hd
  · rw [← c1]; exact List.mem_append_right _ (List.mem_append_right _ hd)
theorem gap_dsum {ts : Tm.Terms} {D : Nat} {L : List Nat} (lL : Low L) (over : ∀ e ∈ ts, ∀ c ∈ e.1, c ∈ L) (lenD : ∀ e ∈ ts, e.1.length ≤ D) (x y a b : Tm.Wd) : Tm.worth ts (a ++ (x ++ b)) - Tm.worth ts (a ++ (y ++ b)) = Tm.dsum (Tm.Us D) (Tm.sumAt (Tm.rows x y (Tm.nf ts))) a b := by
  rw [Tm.dsum_rows (Tm.us_nodup D) a b fun r hr => ?_, ← Tm.worth_gap, Tm.worth_nf, Tm.worth_nf]
  obtain ⟨h1, h2, h3⟩ := row_in over lenD hr
  have sL : ∀ {u : Tm.Wd}, (∀ c ∈ u, c ∈ L) → Tm.Small u := fun hu c hc => by
    have := lL c (hu c hc)
    omega
  exact ⟨Tm.us_mem.mpr ⟨by omega, sL h2⟩, Tm.us_mem.mpr ⟨by omega, sL h3⟩⟩
theorem sx_in {ts : Tm.Terms} {D : Nat} {L : List Nat} (over : ∀ e ∈ ts, ∀ c ∈ e.1, c ∈ L) (lenD : ∀ e ∈ ts, e.1.length ≤ D) {x y u v : Tm.Wd} (h : Sx x y (Tm.nf ts) u v) : u.length + v.length ≤ D - 1 ∧ (∀ c ∈ u, c ∈ L) ∧ ∀ c ∈ v, c ∈ L := by
  obtain ⟨r, hr, q⟩ := Tm.sumAt_mem h
  have := row_in over lenD hr
  rw [q] at this
  exact this
theorem in_us {L : List Nat} (lL : Low L) {D : Nat} {u v : Tm.Wd} (h : u.length + v.length ≤ D - 1 ∧ (∀ c ∈ u, c ∈ L) ∧ ∀ c ∈ v, c ∈ L) : u ∈ Tm.Us D ∧ v ∈ Tm.Us D := by
  have sL : ∀ {u : Tm.Wd}, (∀ c ∈ u, c ∈ L) → Tm.Small u := fun hu c hc => by
    have := lL c (hu c hc)
    omega
  exact ⟨Tm.us_mem.mpr ⟨by omega, sL h.2.1⟩, Tm.us_mem.mpr ⟨by omega, sL h.2.2⟩⟩
theorem link {L : List Nat} {D : Nat} {ts : Tm.Terms} (lL : Low L) (over : ∀ e ∈ ts, ∀ c ∈ e.1, c ∈ L) (lenD : ∀ e ∈ ts, e.1.length ≤ D) {x y : Tm.Wd} {o : Option (Tm.Wd × Tm.Wd)} (h : Tm.Best (Sx x y (Tm.nf ts)) o) : Tm.Best (PairW L D ts x y) o := by
  refine Tm.best_of (n := D) (d := Tm.sumAt (Tm.rows x y (Tm.nf ts))) (D := fun a b => Tm.worth ts (a ++ (x ++ b)) - Tm.worth ts (a ++ (y ++ b))) (fun a _ b _ => gap_dsum lL over lenD x y a b) (fun u v => ⟨fun s => ⟨in_us lL (sx_in over lenD s), s⟩, fun s => s.2⟩) (fun u v t => ⟨in_us lL t.1, t.2⟩) (fun u v s ne => ⟨sx_in over lenD s, ne⟩) h
/-- none found: the worths are alike in every place -/
theorem none_alike {L : List Nat} {D : Nat} {ts : Tm.Terms} (lL : Low L) (over : ∀ e ∈ ts, ∀ c ∈ e.1, c ∈ L) (lenD : ∀ e ∈ ts, e.1.length ≤ D) {x y : Tm.Wd} (h : Tm.Best (Sx x y (Tm.nf ts)) none) (a b : Tm.Wd) : Tm.worth ts (a ++ (x ++ b)) = Tm.worth ts (a ++ (y ++ b)) := by
  have := gap_dsum lL over lenD x y a b
  rw [Tm.dsum_none fun u _ v _ => Decidable.byContradiction fun z => h u v z] at this
  omega
/-- alike in every place: none is found -/
theorem alike_none {L : List Nat} {D : Nat} {ts : Tm.Terms} (lL : Low L) (over : ∀ e ∈ ts, ∀ c ∈ e.1, c ∈ L) (lenD : ∀ e ∈ ts, e.1.length ≤ D) {x y : Tm.Wd} (al : ∀ a b, Tm.worth ts (a ++ (x ++ b)) = Tm.worth ts (a ++ (y ++ b))) : ∀ {o : Option (Tm.Wd × Tm.Wd)}, Tm.Best (Sx x y (Tm.nf ts)) o → o = none
  | none, _ => rfl
  | some m, h => by
    have := (link lL over lenD h).1.2
    rw [al] at this
    exact absurd (Int.sub_self _) this
theorem pair_comm {L : List Nat} {D : Nat} {ts : Tm.Terms} {x y u v : Tm.Wd} : PairW L D ts x y u v ↔ PairW L D ts y x u v := by
  unfold PairW
  constructor <;> rintro ⟨a, b⟩ <;> exact ⟨a, fun z => b (by omega)⟩
end
end K15
set_option Elab.async false
set_option linter.all false
set_option maxRecDepth 100000
set_option maxHeartbeats 8000000
namespace K15
open PySem PySem.Spec PyProof.Rows L2 Evl Bx
open Rx
section
variable {P : Program} {w : World} {K : PySem.W.Frag} {mg : Str → Option Value} {base : Heap}
structure St (T : Tx K mg) (g pt : Addr) (o1 : V) (ts : Tm.Terms) (H : Hp) (n : Nat) : Prop where
  gen : Gen H g n
  f : LT K H pt ts
  z : SumAt T H o1 (Tm.nf ts)
theorem St.ex {T : Tx K mg} {g pt : Addr} {o1 : V} {ts : Tm.Terms} {H H' : Hp} {n : Nat} (s : St T g pt o1 ts H n) (e : Ex H H') : St T g pt o1 ts H' n := ⟨s.gen.ex e, s.f.ex e, s.z.ex e⟩
theorem St.xg {T : Tx K mg} {g pt : Addr} {o1 : V} {ts : Tm.Terms} {H H' : Hp} {n m : Nat} (s : St T g pt o1 ts H n) (x : Xg g H H') (gn : Gen H' g m) : St T g pt o1 ts H' m := ⟨gn, s.f.xg s.gen x, s.z.xg s.gen x⟩
theorem ask {L : List Nat} {ts : Tm.Terms} (dr : Dr L 41 4 (10 ^ 29) ts) : Tm.Nf (Tm.nf ts) ∧ (Tm.nf ts).length ≤ 100 ∧ ∀ e ∈ Tm.nf ts, e.1.length ≤ 20 ∧ e.2.natAbs < 2 ^ 4000 := by
  refine ⟨Tm.nf_nf ts, by have := Tm.nf_len ts; have := dr.few; omega, fun e he => ⟨?_, ?_⟩⟩
  · obtain ⟨x, hx, q⟩ := Tm.nf_words ts e he
    rw [← q]
    have := dr.len x hx
    omega
  · have h := Nat.le_trans (Tm.size_mem he) (Nat.le_trans (Tm.nf_size ts) dr.size)
    exact Nat.lt_of_le_of_lt h (Nat.lt_of_lt_of_le (by decide : 41 * 10 ^ 29 < 2 ^ 200) (Nat.pow_le_pow_right (by decide) (by decide)))
def sp_kept (T : Tx K mg) : Sp := fun vs H Q _ => ∃ (g pt : Addr) (L : List Nat) (o1 : V) (x y : Tm.Wd) (ts : Tm.Terms) (D n : Nat), vs = [.ref g, tx L, o1, .ref pt, tx x, tx y] ∧ St T g pt o1 ts H n ∧ n ≤ 2 ^ 39 ∧ 1 ≤ L.length ∧ L.length ≤ 2 ∧ Low L ∧ Dr L 41 4 (10 ^ 29) ts ∧ (∀ c ∈ x, c ∈ L) ∧ (∀ c ∈ y, c ∈ L) ∧ x.length ≤ 7 ∧ y.length ≤ 7 ∧
  (∀ a b, Tm.worth ts (a ++ (x ++ b)) = Tm.worth ts (a ++ (y ++ b))) ∧ ∀ H', Xg g H H' → Q (.bl true) H'
theorem ok__law_kept_right (T : Tx K mg) : FnOk P w K mg base CX0 5 T.a__law_kept_right T.fd__law_kept_right ["_law_generator_here", "_law_signs_here", "_law_total", "_law_terms_here", "_law_one", "_law_other"] (sp_kept T) := by
  refine T.F__law_kept_right.ok sc__law_kept_right (fun vs H Q E h => ?_) (fun cdv A outer s H vs Q E hr h => ?_)
  · obtain ⟨_, _, _, _, _, _, _, _, _, rfl, _⟩ := h
    rfl
  · obtain ⟨g, pt, L, o1, x, y, ts, D, n, rfl, st, n1, l1, l2, lL, dr, xL, yL, xl, yl, al, q⟩ := h
    refine ⟨_, (pss_cons (ps_set (i := 6) sc__law_kept_right.nd rfl (by first | exact Or.inl rfl | exact Or.inr rfl) (pe_op op_add_str (pv 1) pe_str)) (pss_cons (ps_for PassesOwn.never rfl (pi_range1 (by rfl) T.n_range (pa_cons pe_int pa_nil)) (pg_name (i := 7) sc__law_kept_right.nd rfl (by first | exact Or.inl rfl | exact Or.inr rfl)) (pss_cons (ps_par (i := 8) (j := 9) (by rfl) sc__law_kept_right.nd rfl rfl (by decide) (by rfl) (by rfl) (pa_cons (pe_call (ok__law_word T) (hr.mono (by decide)) (by rfl) T.g__law_word T.F__law_word.kp (b__law_word T) .nil pass0 (pa_cons (pv 0) (pa_cons (pv 6) (pa_cons pe_int (pa_cons pe_int pa_nil))))) (pa_cons (pe_call (ok__law_word T) (hr.mono (by decide)) (by rfl) T.g__law_word T.F__law_word.kp (b__law_word T) .nil pass0 (pa_cons (pv 0) (pa_cons (pv 6) (pa_cons pe_int (pa_cons pe_int pa_nil))))) pa_nil)) (by rfl)) (pss_one (ps_if (pt_cmpR op_ne (pe_meth (pv 2) T.cl_Sum T.m_Sum_worth (ok_Sum_worth T) (hr.mono (by decide)) (b_Sum_worth T) .nil pass0 (pa_cons (pe_op op_add_str (pe_op op_add_str (pv 8) (pv 4)) (pv 9)) pa_nil)) (pe_call (ok__law_worth T) (hr.mono (by decide)) (by rfl) T.g__law_worth T.F__law_worth.kp (b__law_worth T) .nil pass0 (pa_cons (pv 3) (pa_cons (pe_op op_add_str (pe_op op_add_str (pv 8) (pv 5)) (pv 9)) pa_nil))) (nomark _)) (pss_one (ps_ret pe_bl)) pss_nil)))) (pss_cons (ps_if (PW.pt (pw_or (pt_cmpR op_notN (pe_call (ok_changes T) (hr.mono (by decide)) (by rfl) T.g_changes T.F_changes.kp (b_changes T) .nil pass0 (pa_cons (pv 2) (pa_cons (pe_op op_add_str (pv 4) (pv 4)) (pa_cons (pe_op op_add_str (pv 5) (pv 4)) pa_nil)))) pe_non (nomark _)) (pw_or1 (pt_cmpR op_notN (pe_call (ok_changes T) (hr.mono (by decide)) (by rfl) T.g_changes T.F_changes.kp (b_changes T) .nil pass0 (pa_cons (pv 2) (pa_cons (pe_op op_add_str (pv 4) (pv 4)) (pa_cons (pe_op op_add_str (pv 5) (pv 5)) pa_nil)))) pe_non (nomark _))))) (pss_one (ps_ret pe_bl)) pss_nil) (pss_cons (ps_set (i := 10) sc__law_kept_right.nd rfl (by first | exact Or.inl rfl | exact Or.inr rfl) (pe_call (ok__law_word T) (hr.mono (by decide)) (by rfl) T.g__law_word T.F__law_word.kp (b__law_word T) .nil pass0 (pa_cons (pv 0) (pa_cons (pv 6) (pa_cons pe_int (pa_cons pe_int pa_nil)))))) (pss_one (ps_ret (pe_and (pe_cmpR op_isN (pe_call (ok_changes T) (hr.mono (by decide)) (by rfl) T.g_changes T.F_changes.kp (b_changes T) .nil pass0 (pa_cons (pv 2) (pa_cons (pe_op op_add_str (pv 10) (pv 4)) (pa_cons (pe_op op_add_str (pv 10) (pv 5)) pa_nil)))) pe_non (nomark _)) (pe_one (pe_cmpR op_isN (pe_call (ok_changes T) (hr.mono (by decide)) (by rfl) T.g_changes T.F_changes.kp (b_changes T) .nil pass0 (pa_cons (pv 2) (pa_cons (pe_op op_add_str (pv 4) (pv 10)) (pa_cons (pe_op op_add_str (pv 5) (pv 10)) pa_nil)))) pe_non (nomark _)))))))))), ?_⟩
    have fit0 := dr.fit lL (by decide) (by omega) (by decide)
    have fi := fine_of fit0
    have fitn := fit0.nf
    obtain ⟨a1, a2, a3⟩ := ask dr
    have over := dr.over
    have len4 := dr.len
    have qz : PySem.Str.ofString "qz" = mk [113, 122] := by rfl
    have lx : Low x := lL.sub xL
    have ly : Low y := lL.sub yL
    have lW : Low (L ++ [113, 122]) := fun c hc => by
      rcases List.mem_append.mp hc with h | h
      · exact lL c h
      · simp at h
        omega
    have lowA : ∀ {a b : Tm.Wd}, Low a → Low b → Low (a ++ b) := fun ha hb c hc => (List.mem_append.mp hc).elim (ha c) (hb c)
    refine ⟨_, rfl, mk L, PySem.Str.ofString "qz", rfl, rfl, by rw [qz, mk_len, mk_len]; exact sz_of (by show L.length + 2 ≤ _; omega), ?_⟩
    rw [qz, mk_app]
    have wl : (L ++ [113, 122]).length = L.length + 2 := by rw [List.length_append]; rfl
    generalize L ++ [113, 122] = W at lW wl ⊢
    refine ⟨3, rfl, by decide, by decide, for_range (lo := 0) (n := 3) (fun i σ H2 => ∃ y7 y8 y9, σ = [some (.ref g), some (tx L), some o1, some (.ref pt), some (tx x), some (tx y), some (tx W), y7, y8, y9, none] ∧ Xg g H H2 ∧ St T g pt o1 ts H2 (n + 200 * i)) ⟨_, _, _, rfl, Xg.refl _ _, st⟩ (fun i σ H2 hi hp => ?_) (fun σ H2 hp => ?_)⟩
    · obtain ⟨y7, y8, y9, rfl, x2, st⟩ := hp
      refine ⟨_, rfl, _, rfl, g, W, 0, 6, _, rfl, by omega, by omega, by omega, by omega, st.gen, by omega, fun f H3 _ f6 fW x3 g3 => ?_⟩
      have st := st.xg x3 g3
      refine ⟨_, rfl, _, rfl, g, W, 0, 6, _, rfl, by omega, by omega, by omega, by omega, st.gen, by omega, fun l H4 _ l6 lWd x4 g4 => ?_⟩
      have st := st.xg x4 g4
      have x24 := (x2.trans x3).trans x4
      refine ⟨_, _, rfl, ?_⟩
      have lf : Low f := lW.sub fW
      have ll : Low l := lW.sub lWd
      obtain ⟨ox, dx, la, vs0, rfl, h1, h2, h3⟩ := id st.z
      refine ⟨_, rfl, ox, dx, _, rfl, h1, rfl, _, rfl, _, rfl, mk f, mk x, rfl, rfl, by rw [mk_len, mk_len]; exact sz_of (by omega), ?_⟩
      rw [mk_app]
      refine ⟨_, rfl, mk (f ++ x), mk l, rfl, rfl, by rw [mk_len, mk_len, List.length_append]; exact sz_of (by omega), ?_⟩
      rw [mk_app]
      refine ⟨.ref ox, Tm.nf ts, f ++ x ++ l, rfl, st.z, fitn, lowA (lowA lf lx) ll, by rw [List.length_append, List.length_append]; omega, fun H5 e5 => ?_⟩
      have st := st.ex e5
      refine ⟨_, rfl, _, rfl, _, rfl, mk f, mk y, rfl, rfl, by rw [mk_len, mk_len]; exact sz_of (by omega), ?_⟩
      rw [mk_app]
      refine ⟨_, rfl, mk (f ++ y), mk l, rfl, rfl, by rw [mk_len, mk_len, List.length_append]; exact sz_of (by omega), ?_⟩
      rw [mk_app]
      refine ⟨pt, ts, f ++ y ++ l, rfl, st.f.tl, fi, by rw [List.length_append, List.length_append]; omega, fun H6 e6 => ?_⟩
      have st := st.ex e6
      have dz : decide (V.int (Tm.worth (Tm.nf ts) (f ++ x ++ l)) = V.int (Tm.worth ts (f ++ y ++ l))) = true := decide_eq_true (by rw [Tm.worth_nf, List.append_assoc, List.append_assoc, al])
      refine ⟨rfl, false, by show V.bl (!decide (V.int (Tm.worth (Tm.nf ts) (f ++ x ++ l)) = V.int (Tm.worth ts (f ++ y ++ l)))) = _; rw [dz]; rfl, iteF ?_⟩
      have e46 := e5.trans e6
      exact ⟨_, _, _, rfl, x24.ex e46, ⟨st.gen.up (by omega), st.f, st.z⟩⟩
    · obtain ⟨y7, y8, y9, rfl, x2, st⟩ := hp
      have two : ∀ {a b : Tm.Wd}, a.length ≤ 7 → b.length ≤ 7 → (mk a).length + (mk b).length ≤ sizeLine := fun ha hb => by rw [mk_len, mk_len]; exact sz_of (by omega)
      have len2 : ∀ {a b : Tm.Wd}, a.length ≤ 7 → b.length ≤ 7 → (a ++ b).length ≤ 1000 := fun ha hb => by rw [List.length_append]; omega
      have al2 : ∀ a b, Tm.worth ts (a ++ ((x ++ x) ++ b)) = Tm.worth ts (a ++ ((y ++ x) ++ b)) := fun a b => by
        rw [List.append_assoc, List.append_assoc, al]
      have al3 : ∀ a b, Tm.worth ts (a ++ ((x ++ x) ++ b)) = Tm.worth ts (a ++ ((y ++ y) ++ b)) := fun a b => by
        rw [al2, List.append_assoc, List.append_assoc]
        have := al (a ++ y) b
        rw [List.append_assoc, List.append_assoc] at this
        exact this
      refine ⟨_, rfl, _, rfl, _, rfl, mk x, mk x, rfl, rfl, two xl xl, ?_⟩
      rw [mk_app]
      refine ⟨_, rfl, _, rfl, mk y, mk x, rfl, rfl, two yl xl, ?_⟩
      rw [mk_app]
      refine ⟨o1, Tm.nf ts, x ++ x, y ++ x, rfl, st.z, a1, a2, a3, lowA lx lx, len2 xl xl, lowA ly lx, len2 yl xl, fun o z H3 hb e3 hz => ?_⟩
      obtain rfl := alike_none lL over len4 al2 hb
      cases hz
      have st := st.ex e3
      have x3 := x2.ex e3
      refine ⟨rfl, false, rfl, iteF ?_⟩
      refine ⟨_, rfl, _, rfl, _, rfl, mk x, mk x, rfl, rfl, two xl xl, ?_⟩
      rw [mk_app]
      refine ⟨_, rfl, _, rfl, mk y, mk y, rfl, rfl, two yl yl, ?_⟩
      rw [mk_app]
      refine ⟨o1, Tm.nf ts, x ++ x, y ++ y, rfl, st.z, a1, a2, a3, lowA lx lx, len2 xl xl, lowA ly ly, len2 yl yl, fun o z H4 hb e4 hz => ?_⟩
      obtain rfl := alike_none lL over len4 al3 hb
      cases hz
      have st := st.ex e4
      have x4 := x3.ex e4
      refine ⟨rfl, false, rfl, iteF ?_⟩
      refine ⟨_, rfl, _, rfl, g, W, 1, 3, _, rfl, by omega, by omega, by omega, by omega, st.gen, by omega, fun p H5 _ p3 pW x5 g5 => ?_⟩
      have st := st.xg x5 g5
      have x5 := x4.trans x5
      have lp : Low p := lW.sub pW
      have pl : p.length ≤ 7 := by omega
      have al4 : ∀ a b, Tm.worth ts (a ++ ((p ++ x) ++ b)) = Tm.worth ts (a ++ ((p ++ y) ++ b)) := fun a b => by
        have := al (a ++ p) b
        rw [List.append_assoc, List.append_assoc] at this
        rw [List.append_assoc, List.append_assoc]
        exact this
      have al5 : ∀ a b, Tm.worth ts (a ++ ((x ++ p) ++ b)) = Tm.worth ts (a ++ ((y ++ p) ++ b)) := fun a b => by
        rw [List.append_assoc, List.append_assoc, al]
      refine ⟨_, rfl, _, rfl, _, rfl, mk p, mk x, rfl, rfl, two pl xl, ?_⟩
      rw [mk_app]
      refine ⟨_, rfl, _, rfl, mk p, mk y, rfl, rfl, two pl yl, ?_⟩
      rw [mk_app]
      refine ⟨o1, Tm.nf ts, p ++ x, p ++ y, rfl, st.z, a1, a2, a3, lowA lp lx, len2 pl xl, lowA lp ly, len2 pl yl, fun o z H6 hb e6 hz => ?_⟩
      obtain rfl := alike_none lL over len4 al4 hb
      cases hz
      have st := st.ex e6
      have x6 := x5.ex e6
      refine ⟨rfl, true, rfl, iteT ?_⟩
      refine ⟨_, rfl, _, rfl, _, rfl, mk x, mk p, rfl, rfl, two xl pl, ?_⟩
      rw [mk_app]
      refine ⟨_, rfl, _, rfl, mk y, mk p, rfl, rfl, two yl pl, ?_⟩
      rw [mk_app]
      refine ⟨o1, Tm.nf ts, x ++ p, y ++ p, rfl, st.z, a1, a2, a3, lowA lx lp, len2 xl pl, lowA ly lp, len2 yl pl, fun o z H7 hb e7 hz => ?_⟩
      obtain rfl := alike_none lL over len4 al5 hb
      cases hz
      exact ⟨rfl, q _ (x6.ex e7)⟩
end
end K15
set_option Elab.async false
set_option linter.all false
set_option maxRecDepth 100000
set_option maxHeartbeats 8000000
namespace K15
open PySem PySem.Spec PyProof.Rows L2 Evl Bx
open Rx
section
variable {P : Program} {w : World} {K : PySem.W.Frag} {mg : Str → Option Value} {base : Heap}
def p_kb_changes_0_one_other_total {α : Type} : List α → List α → List α
  | [], [k0, k1, k2] => [k2, k0, k1]
  | _, _ => []
theorem r_kb_changes_0_one_other_total {vs : List V} {us : List Value} {zs : List V} {ws : List Value} (r : Vals vs us) (rz : Vals zs ws) : Vals (p_kb_changes_0_one_other_total vs zs) (p_kb_changes_0_one_other_total us ws) := by
  cases r with
  | cons _ _ => exact .nil
  | nil =>
    cases rz with
    | nil => exact .nil
    | cons rk0 rz =>
      cases rz with
      | nil => exact .nil
      | cons rk1 rz =>
        cases rz with
        | nil => exact .nil
        | cons rk2 rz =>
          cases rz with
          | cons _ _ => exact .nil
          | nil =>
            exact (.cons rk2 (.cons rk0 (.cons rk1 .nil)))
theorem kb_changes_0_one_other_total {K : PySem.W.Frag} {mg : Str → Option Value} (T : Tx K mg) : KBinds K T.fd_changes ["total", "one", "other"] ["one", "other", "total"] p_kb_changes_0_one_other_total p_kb_changes_0_one_other_total := by
  obtain ⟨oc, od, kV, doc, pm, an, cdv, ct, osl, hfd, lk, hcd⟩ := T.F_changes.ex
  refine ⟨fun s us ws _ hl => ?_, r_kb_changes_0_one_other_total⟩
  rw [hfd]
  match us, ws, hl with
  | [], [k0, k1, k2], _ => exact .of_eq rfl
theorem top_len (ts : Tm.Terms) : ∃ D, (∀ e ∈ ts, e.1.length ≤ D) ∧ (D = 0 ∨ ∃ e ∈ ts, e.1.length = D) := by
  induction ts with
  | nil => exact ⟨0, fun e he => absurd he List.not_mem_nil, .inl rfl⟩
  | cons x r ih =>
    obtain ⟨D, h1, h2⟩ := ih
    by_cases z : x.1.length ≤ D
    · refine ⟨D, fun e he => (List.mem_cons.mp he).elim (fun y => by rw [y]; exact z) (h1 e), h2.imp id fun ⟨e, he, q⟩ => ⟨e, List.mem_cons_of_mem _ he, q⟩⟩
    · refine ⟨x.1.length, fun e he => (List.mem_cons.mp he).elim (fun y => by rw [y]; exact Nat.le_refl _) fun y => by have := h1 e y; omega, .inr ⟨x, List.mem_cons_self, rfl⟩⟩
def sp__law_right (K : PySem.W.Frag) : Sp := fun vs H Q _ => ∃ (g : Addr) (n : Nat), vs = [.ref g] ∧ Gen H g n ∧ n ≤ 2 ^ 37 ∧ ∀ H', Xg g H H' → Q (.bl true) H'
theorem ok__law_right (T : Tx K mg) : FnOk P w K mg base CX0 6 T.a__law_right T.fd__law_right ["_law_generator_here"] (sp__law_right K) := by
  refine T.F__law_right.ok sc__law_right (fun vs H Q E h => ?_) (fun cdv A outer s' H vs Q E hr h => ?_)
  · obtain ⟨_, _, rfl, _⟩ := h
    rfl
  · obtain ⟨g, n, rfl, gn, n1, q⟩ := h
    refine ⟨_, (pss_cons (ps_set (i := 1) sc__law_right.nd rfl (by first | exact Or.inl rfl | exact Or.inr rfl) (pe_call (ok__law_signs T) (hr.mono (by decide)) (by rfl) T.g__law_signs T.F__law_signs.kp (b__law_signs T) .nil pass0 (pa_cons (pv 0) (pa_cons (pe_op op_add pe_int (pe_call (ok__law_random T) (hr.mono (by decide)) (by rfl) T.g__law_random T.F__law_random.kp (b__law_random T) .nil pass0 (pa_cons (pv 0) (pa_cons pe_int pa_nil)))) pa_nil)))) (pss_cons (ps_set (i := 2) sc__law_right.nd rfl (by first | exact Or.inl rfl | exact Or.inr rfl) (pe_call (ok__law_drawn T) (hr.mono (by decide)) (by rfl) T.g__law_drawn T.F__law_drawn.kp (b__law_drawn T) .nil pass0 (pa_cons (pv 0) (pa_cons (pv 1) pa_nil)))) (pss_cons (ps_asg (pe_call (ok__law_two_texts T) (hr.mono (by decide)) (by rfl) T.g__law_two_texts T.F__law_two_texts.kp (b__law_two_texts T) .nil pass0 (pa_cons (pv 0) (pa_cons (pv 1) pa_nil))) (pg_tup (by rfl) (pgs_cons (pg_name (i := 3) sc__law_right.nd rfl (by first | exact Or.inl rfl | exact Or.inr rfl)) (pgs_cons (pg_name (i := 4) sc__law_right.nd rfl (by first | exact Or.inl rfl | exact Or.inr rfl)) pgs_nil)))) (pss_cons (ps_set (i := 5) sc__law_right.nd rfl (by first | exact Or.inl rfl | exact Or.inr rfl) (pe_call (ok__law_word T) (hr.mono (by decide)) (by rfl) T.g__law_word T.F__law_word.kp (b__law_word T) .nil pass0 (pa_cons (pv 0) (pa_cons (pv 1) (pa_cons pe_int (pa_cons pe_int pa_nil)))))) (pss_cons (ps_par3 (i := 6) (j := 7) (l := 8) (by rfl) sc__law_right.nd rfl rfl rfl (by decide) (by decide) (by decide) (by rfl) (by rfl) (by rfl) (pa_cons (pe_make T.mk_Sum (ok_Sum_init T) (hr.mono (by decide)) (by rfl) T.g_Sum (b_Sum_init T) .nil pass0 (pa_cons (pe_callTy call_list_of (by rfl) T.n_list (by decide +kernel) (pa_cons (pv 2) pa_nil)) pa_nil)) (pa_cons (pe_make T.mk_Sum (ok_Sum_init T) (hr.mono (by decide)) (by rfl) T.g_Sum (b_Sum_init T) .nil pass0 (pa_cons (pe_op op_cat (pv 2) (pe_lst (pa_cons (pe_tup (pa_cons (pv 1) (pa_cons pe_int pa_nil))) pa_nil))) pa_nil)) (pa_cons (pe_call (ok__law_first_pair T) (hr.mono (by decide)) (by rfl) T.g__law_first_pair T.F__law_first_pair.kp (b__law_first_pair T) .nil pass0 (pa_cons (pv 1) (pa_cons (pv 2) (pa_cons (pv 3) (pa_cons (pv 4) pa_nil))))) pa_nil))) (by rfl)) (pss_cons (ps_if (PW.pt (pw_or (pt_not (pt_val (pe_call (ok__law_same T) (hr.mono (by decide)) (by rfl) T.g__law_same T.F__law_same.kp (b__law_same T) .nil pass0 (pa_cons (pe_call (ok_changes T) (hr.mono (by decide)) (by rfl) T.g_changes T.F_changes.kp (b_changes T) .nil pass0 (pa_cons (pv 6) (pa_cons (pv 3) (pa_cons (pv 4) pa_nil)))) (pa_cons (pv 8) pa_nil))))) (pw_or1 (pt_not (pt_val (pe_call (ok__law_same T) (hr.mono (by decide)) (by rfl) T.g__law_same T.F__law_same.kp (b__law_same T) .nil pass0 (pa_cons (pe_call (ok_changes T) (hr.mono (by decide)) (by rfl) T.g_changes T.F_changes.kp (b_changes T) .nil pass0 (pa_cons (pv 6) (pa_cons (pv 4) (pa_cons (pv 3) pa_nil)))) (pa_cons (pv 8) pa_nil)))))))) (pss_one (ps_ret pe_bl)) pss_nil) (pss_cons (ps_set (i := 9) sc__law_right.nd rfl (by first | exact Or.inl rfl | exact Or.inr rfl) (pe_call (ok__law_first_pair T) (hr.mono (by decide)) (by rfl) T.g__law_first_pair T.F__law_first_pair.kp (b__law_first_pair T) .nil pass0 (pa_cons (pv 1) (pa_cons (pe_op op_cat (pv 2) (pe_lst (pa_cons (pe_tup (pa_cons (pv 1) (pa_cons pe_int pa_nil))) pa_nil))) (pa_cons (pv 3) (pa_cons (pv 4) pa_nil)))))) (pss_cons (ps_if (pt_not (pt_val (pe_call (ok__law_same T) (hr.mono (by decide)) (by rfl) T.g__law_same T.F__law_same.kp (b__law_same T) .nil pass0 (pa_cons (pe_callK0 (ok_changes T) (hr.mono (by decide)) (by rfl) T.g_changes T.F_changes.kp (kb_changes_0_one_other_total T) pass0 (pk_cons (pv 3) (pk_cons (pv 4) (pk_cons (pv 7) pk_nil)))) (pa_cons (pv 9) pa_nil))))) (pss_one (ps_ret pe_bl)) pss_nil) (pss_cons (ps_if (pt_not (pt_val (pe_call (ok__law_same T) (hr.mono (by decide)) (by rfl) T.g__law_same T.F__law_same.kp (b__law_same T) .nil pass0 (pa_cons (pe_call (ok_changes T) (hr.mono (by decide)) (by rfl) T.g_changes T.F_changes.kp (b_changes T) .nil pass0 (pa_cons (pv 6) (pa_cons (pv 3) (pa_cons (pv 5) pa_nil)))) (pa_cons (pe_call (ok__law_first_pair T) (hr.mono (by decide)) (by rfl) T.g__law_first_pair T.F__law_first_pair.kp (b__law_first_pair T) .nil pass0 (pa_cons (pv 1) (pa_cons (pv 2) (pa_cons (pv 3) (pa_cons (pv 5) pa_nil))))) pa_nil))))) (pss_one (ps_ret pe_bl)) pss_nil) (pss_cons (ps_if (PW.pt (pw_or (pt_cmpR op_notN (pe_call (ok_changes T) (hr.mono (by decide)) (by rfl) T.g_changes T.F_changes.kp (b_changes T) .nil pass0 (pa_cons (pv 6) (pa_cons (pv 3) (pa_cons (pv 3) pa_nil)))) pe_non (nomark _)) (pw_or1 (pt_not (pt_val (pe_call (ok__law_same T) (hr.mono (by decide)) (by rfl) T.g__law_same T.F__law_same.kp (b__law_same T) .nil pass0 (pa_cons (pe_call (ok_changes T) (hr.mono (by decide)) (by rfl) T.g_changes T.F_changes.kp (b_changes T) .nil pass0 (pa_cons (pv 6) (pa_cons (pv 3) (pa_cons (pv 4) pa_nil)))) (pa_cons (pv 8) pa_nil)))))))) (pss_one (ps_ret pe_bl)) pss_nil) (pss_cons (ps_if (pt_cmpR op_isN (pv 8) pe_non (nomark _)) (pss_one (ps_ret (pe_call (ok__law_kept_right T) (hr.mono (by decide)) (by rfl) T.g__law_kept_right T.F__law_kept_right.kp (b__law_kept_right T) .nil pass0 (pa_cons (pv 0) (pa_cons (pv 1) (pa_cons (pv 6) (pa_cons (pv 2) (pa_cons (pv 3) (pa_cons (pv 4) pa_nil))))))))) pss_nil) (pss_cons (ps_if (pt_cmpR op_eq (pe_meth (pv 6) T.cl_Sum T.m_Sum_worth (ok_Sum_worth T) (hr.mono (by decide)) (b_Sum_worth T) .nil pass0 (pa_cons (pe_op op_add_str (pe_op op_add_str (pe_ix ix_tup (pv 8) pe_int (fun _ _ => rfl)) (pv 3)) (pe_ix ix_tup (pv 8) pe_int (fun _ _ => rfl))) pa_nil)) (pe_meth (pv 6) T.cl_Sum T.m_Sum_worth (ok_Sum_worth T) (hr.mono (by decide)) (b_Sum_worth T) .nil pass0 (pa_cons (pe_op op_add_str (pe_op op_add_str (pe_ix ix_tup (pv 8) pe_int (fun _ _ => rfl)) (pv 4)) (pe_ix ix_tup (pv 8) pe_int (fun _ _ => rfl))) pa_nil)) (nomark _)) (pss_one (ps_ret pe_bl)) pss_nil) (pss_one (ps_ret (pe_call (ok__law_is_sum T) (hr.mono (by decide)) (by rfl) T.g__law_is_sum T.F__law_is_sum.kp (b__law_is_sum T) .nil pass0 (pa_cons (pv 6) (pa_cons (pe_call (ok__law_normal T) (hr.mono (by decide)) (by rfl) T.g__law_normal T.F__law_normal.kp (b__law_normal T) .nil pass0 (pa_cons (pv 2) pa_nil)) pa_nil))))))))))))))))), ?_⟩
    have two : 2 ≤ sizeLine := sz_of (by omega)
    have one_ : 1 ≤ sizeLine := sz_of (by omega)
    -- signs
    refine ⟨_, rfl, _, rfl, g, 2, n, rfl, by decide, by decide, gn, by omega, fun r H1 r0 r1 x1 g1 => ?_⟩
    obtain ⟨k, rfl⟩ := Int.eq_ofNat_of_zero_le r0
    have e1k : (1 : Int) + ((k : Nat) : Int) = ((1 + k : Nat) : Int) := by omega
    refine ⟨_, _, rfl, rfl, g, 1 + k, n + 10, by rw [← e1k]; rfl, by omega, g1, by omega, fun L H2 Ll lL up x2 g2 => ?_⟩
    have l1 : 1 ≤ L.length := by omega
    have l2 : L.length ≤ 2 := by omega
    have x2 := x1.trans x2
    -- terms
    refine ⟨_, rfl, _, rfl, g, L, _, rfl, l1, l2, lL, g2, by omega, fun pt ts H3 x3 lt dr0 g3 => ?_⟩
    have x3 := x2.trans x3
    -- two texts
    refine ⟨_, rfl, _, rfl, g, L, _, rfl, l1, l2, g3, by omega, fun p2 x y H4 x4 hp2 xL yL xl yl g4 => ⟨p2, _, rfl, hp2, rfl, _, _, rfl, _, _, rfl, rfl, ?_⟩⟩
    have lt4 := lt.xg g3 x4
    have x4 := x3.trans x4
    -- third
    refine ⟨_, rfl, _, rfl, g, L, 0, 4, _, rfl, l1, by omega, by omega, by omega, g4, by omega, fun t3 H5 _ t34 tL x5 g5 => ?_⟩
    have lt5 := lt4.xg g4 x5
    have x5 := x4.trans x5
    clear x1 x2 x3 x4 g1 g2 g3 g4 lt lt4 hp2
    have lx : Low x := lL.sub xL
    have ly : Low y := lL.sub yL
    have l3 : Low t3 := lL.sub tL
    have dr : Dr L 41 4 (10 ^ 29) ts := dr0.up (by omega) (Nat.le_refl _)
    have dr2 : Dr L 41 4 (10 ^ 29) (ts ++ [(L, 1)]) := dr0.snoc (fun a h => h) (by omega) (by decide)
    have fit0 := dr.fit lL (by decide) (by omega) (by decide)
    have fi := fine_of fit0
    have fitn := fit0.nf
    have fi2 := fine_of (dr2.fit lL (by decide) (by omega) (by decide))
    obtain ⟨a1, a2, a3⟩ := ask dr
    obtain ⟨b1, b2, b3⟩ := ask dr2
    have tf := dr.few
    -- total
    obtain ⟨us, hpt, hT⟩ := lt5
    have ul := hT.len
    refine ⟨_, rfl, pt, us, rfl, .inl (.inl (.inl hpt)), fun pl npl => ?_⟩
    refine make_sum T ⟨us, .inl (.inl upd_same), hT.ex (ex_upd npl)⟩ fi fun o1 H6 e6 hz1 => ⟨rfl, ?_⟩
    have e6 := (ex_upd npl).trans e6
    have hpt6 := e6 _ _ hpt
    have hT6 := hT.ex e6
    -- near
    refine ⟨_, rfl, _, rfl, two, fun t nt => ⟨one_, fun pb npb => ⟨pt, pb, us, [.ref t], rfl, rfl, ex_upd npb _ _ (ex_upd nt _ _ hpt6), upd_same, sz_of (by rw [List.length_singleton]; omega), fun pc npc => ?_⟩⟩⟩
    have e7 := ((ex_upd (o := .tup [tx L, V.int 1]) nt).trans (ex_upd (o := .lst [.ref t]) npb)).trans (ex_upd (o := .lst (us ++ [.ref t])) npc)
    have hq : SqT K (upd (upd (upd H6 t (.tup [tx L, V.int 1])) pb (.lst [.ref t])) pc (.lst (us ++ [.ref t]))) t [tx L, V.int 1] := .inl (.inl (ex_upd npc _ _ (ex_upd npb _ _ upd_same)))
    refine make_sum T (ts := ts ++ [(L, 1)]) ⟨us ++ [.ref t], .inl (.inl upd_same), (hT6.ex e7).snoc hq⟩ fi2 fun o2 H8 e8 hz2 => ⟨rfl, ?_⟩
    have e68 := e7.trans e8
    have st : St T g pt (.ref o1) ts H8 _ := ⟨(g5.ex e6).ex e68, ⟨us, e68 _ _ hpt6, hT6.ex e68⟩, hz1.ex e68⟩
    have x8 := x5.ex (e6.trans e68)
    clear hpt hT hz1 e6 hpt6 hT6 e7 e8 e68 hq
    -- due
    obtain ⟨D, lenD, topD⟩ := top_len ts
    have D4 : D ≤ 5 := by
      rcases topD with z | ⟨e, he, z⟩
      · omega
      · have := dr.len e he
        omega
    obtain ⟨D2, lenD2, topD2⟩ := top_len (ts ++ [(L, 1)])
    have D24 : D2 ≤ 5 := by
      rcases topD2 with z | ⟨e, he, z⟩
      · omega
      · have := dr2.len e he
        omega
    have over := dr.over
    have over2 := dr2.over
    refine ⟨_, rfl, _, rfl, _, rfl, _, rfl, L, pt, ts, x, y, D, rfl, st.f.tl, fi, by omega, l1, l2, D4, lL, by omega, by omega, lenD, topD, fun o zd H9 ho e9 hzd => ⟨_, _, _, rfl, ?_⟩⟩
    have lowO : ∀ {D : Nat} {ts : Tm.Terms} {x y : Tm.Wd} {o}, Tm.Best (PairW L D ts x y) o → LowO o := fun {D ts x y o} ho => by
      cases o with
      | none => trivial
      | some m => exact ⟨lL.sub ho.1.1.2.1, lL.sub ho.1.1.2.2⟩
    have lo := lowO ho
    have st := st.ex e9
    have hz2 := hz2.ex e9
    have x9 := x8.ex e9
    clear e9 x8 x5
    refine ⟨_, rfl, _, rfl, _, rfl, .ref o1, Tm.nf ts, x, y, rfl, st.z, a1, a2, a3, lx, by omega, ly, by omega, fun o' z10 H10 hb e10 hz10 => ?_⟩
    have eo := (link lL over lenD hb).one ho
    subst eo
    have st := st.ex e10
    have hz2 := hz2.ex e10
    have x10 := x9.ex e10
    have hzd := hzd.ex e10
    refine ⟨_, rfl, z10, zd, o', rfl, hz10, hzd, lo, true, rfl, ?_⟩
    refine iteF ⟨_, rfl, _, rfl, _, rfl, .ref o1, Tm.nf ts, y, x, rfl, st.z, a1, a2, a3, ly, by omega, lx, by omega, fun o3 z11 H11 hb2 e11 hz11 => ?_⟩
    have eo2 := (best_congr (fun u v => pair_comm) (link lL over lenD hb2)).one ho
    subst eo2
    have st := st.ex e11
    have hz2 := hz2.ex e11
    have x11 := x10.ex e11
    have hzd := hzd.ex e11
    refine ⟨_, rfl, z11, zd, o3, rfl, hz11, hzd, lo, true, rfl, iteF ?_⟩
    clear e10 e11 x10 x9 hz10 hz11 hb2
    -- last
    obtain ⟨us, hpt, hT⟩ := id st.f
    have ul := hT.len
    refine ⟨_, rfl, _, rfl, _, rfl, two, fun t nt => ⟨one_, fun pb npb => ⟨pt, pb, us, [.ref t], rfl, rfl, ex_upd npb _ _ (ex_upd nt _ _ hpt), upd_same, sz_of (by rw [List.length_singleton]; omega), fun pc npc => ?_⟩⟩⟩
    have e12 := ((ex_upd (o := .tup [tx L, V.int 1]) nt).trans (ex_upd (o := .lst [.ref t]) npb)).trans (ex_upd (o := .lst (us ++ [.ref t])) npc)
    have hq : SqT K (upd (upd (upd H11 t (.tup [tx L, V.int 1])) pb (.lst [.ref t])) pc (.lst (us ++ [.ref t]))) t [tx L, V.int 1] := .inl (.inl (ex_upd npc _ _ (ex_upd npb _ _ upd_same)))
    refine ⟨_, rfl, _, rfl, L, pc, ts ++ [(L, 1)], x, y, D2, rfl, ⟨us ++ [.ref t], .inl (.inl upd_same), (hT.ex e12).snoc hq⟩, fi2, by have := dr2.few; omega, l1, l2, D24, lL, by omega, by omega, lenD2, topD2, fun ol zl H13 hol e13 hzl => ?_⟩
    have e13 := e12.trans e13
    have st := st.ex e13
    have hz2 := hz2.ex e13
    have x13 := x11.ex e13
    have hzd := hzd.ex e13
    clear e12 e13 x11 hq hpt hT
    refine ⟨_, rfl, _, rfl, _, rfl, .ref o2, Tm.nf (ts ++ [(L, 1)]), x, y, rfl, hz2, b1, b2, b3, lx, by omega, ly, by omega, fun o4 z14 H14 hb e14 hz14 => ?_⟩
    have eo4 := (link lL over2 lenD2 hb).one hol
    subst eo4
    refine ⟨_, rfl, z14, zl, o4, rfl, hz14, hzl.ex e14, lowO hol, true, rfl, iteF ?_⟩
    have st := st.ex e14
    have x14 := x13.ex e14
    have hzd := hzd.ex e14
    clear hz2 hzl hz14 e14 x13 hb hol
    -- third
    refine ⟨_, rfl, _, rfl, _, rfl, .ref o1, Tm.nf ts, x, t3, rfl, st.z, a1, a2, a3, lx, by omega, l3, by omega, fun o5 z15 H15 hb e15 hz15 => ?_⟩
    have st := st.ex e15
    refine ⟨_, rfl, _, rfl, _, rfl, _, rfl, L, pt, ts, x, t3, D, rfl, st.f.tl, fi, by omega, l1, l2, D4, lL, by omega, by omega, lenD, topD, fun o6 z16 H16 ho6 e16 hz16 => ?_⟩
    have eo6 := (link lL over lenD hb).one ho6
    subst eo6
    refine ⟨z15, z16, o5, rfl, hz15.ex e16, hz16, lowO ho6, true, rfl, iteF ?_⟩
    have st := st.ex e16
    have x16 := x14.ex (e15.trans e16)
    have hzd := hzd.ex (e15.trans e16)
    clear hz15 hz16 e15 e16 x14 hb ho6
    -- one for itself
    refine ⟨_, rfl, _, rfl, _, rfl, .ref o1, Tm.nf ts, x, x, rfl, st.z, a1, a2, a3, lx, by omega, lx, by omega, fun o7 z17 H17 hb e17 hz17 => ?_⟩
    obtain rfl := alike_none lL over lenD (fun a b => rfl) hb
    cases hz17
    have st := st.ex e17
    have x17 := x16.ex e17
    have hzd := hzd.ex e17
    refine ⟨rfl, false, rfl, iteF ?_⟩
    refine ⟨_, rfl, _, rfl, _, rfl, .ref o1, Tm.nf ts, x, y, rfl, st.z, a1, a2, a3, lx, by omega, ly, by omega, fun o8 z18 H18 hb8 e18 hz18 => ?_⟩
    have eo8 := (link lL over lenD hb8).one ho
    subst eo8
    have st := st.ex e18
    have x18 := x17.ex e18
    have hzd := hzd.ex e18
    refine ⟨_, rfl, z18, zd, o8, rfl, hz18, hzd, lo, true, rfl, iteF ?_⟩
    clear e17 e18 hz18 hb x16 x17
    cases o8 with
    | none =>
      cases hzd
      refine ⟨_, rfl, rfl, true, rfl, iteT ⟨_, rfl, _, rfl, _, rfl, _, rfl, _, rfl, _, rfl, g, pt, L, .ref o1, x, y, ts, D, _, rfl, st, by omega, l1, l2, lL, dr, xL, yL, xl, yl, none_alike lL over lenD hb8, fun H19 x19 => q H19 (x18.trans x19)⟩⟩
    | some m =>
      obtain ⟨p, rfl, hp⟩ := hzd
      refine ⟨_, rfl, rfl, false, rfl, iteF ?_⟩
      obtain ⟨ox, dx, la, vs0, ez, h1, h2, h3⟩ := id st.z
      cases ez
      have ml := ho.1.1.1
      have lm1 : Low m.1 := lo.1
      have lm2 : Low m.2 := lo.2
      have lowA : ∀ {a b : Tm.Wd}, Low a → Low b → Low (a ++ b) := fun ha hb c hc => (List.mem_append.mp hc).elim (ha c) (hb c)
      refine ⟨_, rfl, _, dx, _, rfl, h1, rfl, _, rfl, p, _, 0, tx m.1, rfl, rfl, hp, atI_nat (j := 0) rfl, _, rfl, mk m.1, mk x, rfl, rfl, by rw [mk_len, mk_len]; exact sz_of (by omega), ?_⟩
      rw [mk_app]
      refine ⟨_, rfl, p, _, 1, tx m.2, rfl, rfl, hp, atI_nat (j := 1) rfl, mk (m.1 ++ x), mk m.2, rfl, rfl, by rw [mk_len, mk_len, List.length_append]; exact sz_of (by omega), ?_⟩
      rw [mk_app]
      refine ⟨.ref o1, Tm.nf ts, m.1 ++ x ++ m.2, rfl, st.z, fitn, lowA (lowA lm1 lx) lm2, by rw [List.length_append, List.length_append]; omega, fun H19 e19 => ?_⟩
      have st := st.ex e19
      have hp := ex_t e19 hp
      refine ⟨_, rfl, _, dx, _, rfl, e19 _ _ h1, rfl, _, rfl, p, _, 0, tx m.1, rfl, rfl, hp, atI_nat (j := 0) rfl, _, rfl, mk m.1, mk y, rfl, rfl, by rw [mk_len, mk_len]; exact sz_of (by omega), ?_⟩
      rw [mk_app]
      refine ⟨_, rfl, p, _, 1, tx m.2, rfl, rfl, hp, atI_nat (j := 1) rfl, mk (m.1 ++ y), mk m.2, rfl, rfl, by rw [mk_len, mk_len, List.length_append]; exact sz_of (by omega), ?_⟩
      rw [mk_app]
      refine ⟨.ref o1, Tm.nf ts, m.1 ++ y ++ m.2, rfl, st.z, fitn, lowA (lowA lm1 ly) lm2, by rw [List.length_append, List.length_append]; omega, fun H20 e20 => ?_⟩
      have st := st.ex e20
      have x20 := x18.ex (e19.trans e20)
      have dz : decide (V.int (Tm.worth (Tm.nf ts) (m.1 ++ x ++ m.2)) = V.int (Tm.worth (Tm.nf ts) (m.1 ++ y ++ m.2))) = false := decide_eq_false fun z => by
        have := V.int.inj z
        rw [Tm.worth_nf, Tm.worth_nf, List.append_assoc, List.append_assoc] at this
        exact ho.1.2 (by rw [this]; omega)
      refine ⟨rfl, false, by show V.bl (decide (V.int (Tm.worth (Tm.nf ts) (m.1 ++ x ++ m.2)) = V.int (Tm.worth (Tm.nf ts) (m.1 ++ y ++ m.2)))) = _; rw [dz], iteF ?_⟩
      refine ⟨_, rfl, _, rfl, pt, ts, rfl, st.f.tl, fi, by omega, fun pn un H21 e21 npn hpn hTn => ?_⟩
      exact ⟨.ref o1, pn, Tm.nf ts, rfl, st.z.ex e21, ⟨un, .inl (.inl hpn), hTn⟩, (fine_of fitn).low, fun H22 e22 => q H22 (x20.ex (e21.trans e22))⟩
end
end K15
set_option Elab.async false
set_option linter.all false
set_option maxRecDepth 100000
set_option maxHeartbeats 4000000
/-! Gx2: the end of a law whose promise holds where no repr is under way -/
namespace Gx
open PySem PySem.Spec PyProof.Rows L2
section
variable {P : Program} {w : World} {K : PySem.W.Frag} {mg mb : Str → Option Value} {a : Addr} {s : Shared} {vs : List Value} {ns : List Int}
/-- the state behind the top as the one at the law's call, with the script alone to be seen -/
theorem first_env {H : Hp} (inK : K.In s.heap) (names : s.heap.Ns mainGlobals mg) (bn : s.heap.Ns builtinsNs mb) (boot : ∀ x : Str, x ≠ "__name__" → mb x = bootBuiltins x) (free : s.heap.NoLimit) (none : s.gens = #[])
    (script : s.heap.get? a = some { cls := .type "list", data := .seq vs.toArray }) (ok : HOk P w H s.heap) (just : ∀ b, H b ≠ Option.none → b = a) (own : H a ≠ Option.none → K.lookup a = Option.none) :
    ∃ base : Heap, K.In base ∧ base.Ns mainGlobals mg ∧ Env0 P w K mg base callerA [] s H := by
  have unseen : ∀ {b : Addr} {u : Obj} {es : Array DictEntry} {ep : Nat}, s.heap.get? b = some u → u.data = .dict es ep → H b = Option.none := by
    intro b u es ep at_b isDict
    by_cases z : H b = Option.none
    · exact z
    · have eq := just b z
      rw [eq] at at_b
      rw [script] at at_b
      obtain rfl := Option.some.inj at_b
      exact Data.noConfusion isDict
  have space : ∀ {b : Addr} {m : Str → Option Value}, s.heap.Ns b m → (hidT s.heap H).Ns b m := by
    rintro b m ⟨u, es, ep, at_b, isDict, more⟩
    exact ⟨u, es, ep, hidT_get at_b (unseen at_b isDict), isDict, more⟩
  have inBase : K.In (hidT s.heap H) := by
    intro b u at_b
    refine hidT_get (inK b u at_b) ?_
    by_cases z : H b = Option.none
    · exact z
    · have eq := just b z
      rw [eq] at at_b z
      rw [own z] at at_b
      cases at_b
  obtain ⟨mc, c1, c2⟩ := free
  refine ⟨hidT s.heap H, inBase, space names, rfl, ⟨inBase, space names, ⟨mb, space bn, boot⟩, ⟨mc, space c1, c2⟩⟩, fun b u at_b => of_hidT at_b, Nat.le_of_eq (hidT_size _ _), trivial, fun b hb => ?_, ok, .of_eq none⟩
  exact absurd (show b ∈ ([] : List Addr) from hb) (by simp)
/-- the call of the law -/
theorem law_run {CX : CXT} {k : Nat} {fa : Addr} {fd : FuncData} {x : Str} {sp : Sp} (inK : K.In s.heap) (names : s.heap.Ns mainGlobals mg) (bn : s.heap.Ns builtinsNs mb) (boot : ∀ x : Str, x ≠ "__name__" → mb x = bootBuiltins x) (free : s.heap.NoLimit) (none : s.gens = #[])
    (script : s.heap.get? a = some { cls := .type "list", data := .seq vs.toArray }) (whole : IntsAre vs ns) (few : ns.length ≤ sizeLine) (room : Room k callerA)
    (F : ∀ base : Heap, K.In base → base.Ns mainGlobals mg → FnG P w K mg base CX k fa fd [x] sp) (bound : ∀ (s : Shared) (u : Value), BindsTo s fd ⟨[u], []⟩ [(x, u)])
    (start : ∀ H : Hp, Only H → SqL K H a (ns.map V.int) → sp [.ref a] H (fun v _ => v = .bl true) fun _ _ _ => False) (quiet : ∀ H e s', CX [] H s (fun _ _ _ => False) e s' → False) :
    codeAny (model P w) callerA (.call (.ref fa) ⟨[.ref a], []⟩) (fun r s' => r = .ok (.ret (.bool true)) ∧ OldK s.heap s'.heap ∧ s'.os = s.os ∧ AllBare s'.gens) s := by
  have vals := vals_ints whole
  have size := whole.length
  have go : ∀ H : Hp, Only H → SqL K H a (ns.map V.int) → HOk P w H s.heap → (∀ b, H b ≠ Option.none → b = a) → (H a ≠ Option.none → K.lookup a = Option.none) →
      codeAny (model P w) callerA (.call (.ref fa) ⟨[.ref a], []⟩) (fun r s' => r = .ok (.ret (.bool true)) ∧ OldK s.heap s'.heap ∧ s'.os = s.os ∧ AllBare s'.gens) s := by
    intro H only seen ok just own
    obtain ⟨base, b1, b2, env⟩ := first_env (P := P) (w := w) inK names bn boot free none script ok just own
    refine codeAny_mono ((F base b1 b2).go callerA [] s H ⟨[.ref a], []⟩ [.ref a] [.ref a] _ _ rfl room env (bound s (.ref a)) (.cons rfl .nil) (start H only seen)) fun r s' h => ?_
    match r, h with
    | .error e, h => exact (quiet H e s' h).elim
    | .ok .next, h => exact h.elim
    | .ok .brk, h => exact h.elim
    | .ok .cont, h => exact h.elim
    | .ok (.ret u), ⟨v, H', os, bare, un, ok', rel, is_yes⟩ =>
      subst is_yes
      have eu : u = Value.bool true := rel
      subst eu
      refine ⟨rfl, OldK.of_keep ?_, os, bare⟩
      intro b ob at_b
      rcases only b with free_b | ⟨o2, xs, at_H⟩
      · exact un.keep b ob at_b free_b (fun z => absurd (show b ∈ ([] : List Addr) from z) (by simp)) (by simp)
      · have later := (ok' b _ (un.frzs b o2 _ at_H)).1
        have before := (ok b _ at_H).1
        rw [at_b] at before
        obtain rfl := Option.some.inj before
        exact later
  cases written : K.lookup a with
  | some o =>
    have same := inK a o written
    rw [script] at same
    obtain rfl := Option.some.inj same
    refine go (fun _ => Option.none) (fun _ => .inl rfl) (.inr ⟨_, vs.toArray, _, written, rfl, rfl, rfl, ?_, ?_⟩) ?_ ?_ ?_
    · rw [List.size_toArray, size]
      exact few
    · simpa using vals
    · intro b u z
      have z' : (Option.none : Option HO) = some u := z
      cases z'
    · exact fun b z => absurd rfl z
    · exact fun z => absurd rfl z
  | none =>
    let the : HO := .frz { cls := .type "list", data := .seq vs.toArray } (.lst (ns.map V.int))
    have yes : (fun b => if b = a then some the else Option.none) a = some the := if_pos rfl
    refine go (fun b => if b = a then some the else Option.none) ?_ (.inl (.inr ⟨_, yes⟩)) ?_ ?_ (fun _ => written)
    · intro b
      by_cases e : b = a
      · exact .inr ⟨_, _, if_pos e⟩
      · exact .inl (if_neg e)
    · intro b u z
      by_cases e : b = a
      · subst e
        obtain rfl := Option.some.inj (yes.symm.trans z)
        exact ⟨script, by rw [List.length_map]; exact few, vs, _, vals, script⟩
      · have z' : (if b = a then some the else Option.none) = some u := z
        rw [if_neg e] at z'
        cases z'
    · intro b z
      by_cases e : b = a
      · exact e
      · exact absurd (if_neg e) z
end
/-- what k_head leaves, from such a promise -/
theorem walk_ofG {l : PySem.W.OpenLaw} {n k : Nat} {q : Program} {loose : List Str} {XP : (Str → Option Value) → Heap → Prop} {YP : World → Heap → Prop} {d : DefRec} {K : Params → PySem.W.Frag} {x : Str} {sp : World → Sp}
    (hn : l.most = some n) (hn2 : n ≤ sizeLine) (hdf : d.params.defaults = []) (room : Room k callerA) (hY : ∀ (w : World) (h : Heap), YP w h → (K w.params).In h)
    (F : ∀ (w : World) (mg : Str → Option Value) (fa : Addr) (h : Heap), (K w.params).In h → h.Ns mainGlobals mg → mg d.name = some (.ref fa) →
      ∃ fd : FuncData, (∀ (s : Shared) (u : Value), BindsTo s fd ⟨[u], []⟩ [(x, u)]) ∧ ∀ base : Heap, (K w.params).In base → base.Ns mainGlobals mg → FnG l.prog w (K w.params) mg base CX0 k fa fd [x] (sp w))
    (start : ∀ (w : World) (H : Hp) (a : Addr) (ns : List Int), ns.length ≤ n → Only H → SqL (K w.params) H a (ns.map V.int) → sp w [.ref a] H (fun v _ => v = .bl true) fun _ _ _ => False) :
    PySem.W.WalkO q loose XP YP l.row.toRowW d [] (fun f vs => PySem.call f vs) := by
  refine Att.attach_call hn hdf fun w _ s₁ mg mb fa _ _ _ _ a vs ns ground y _ _ _ named script whole few none => ?_
  obtain ⟨fd, bound, all⟩ := F w mg fa _ (hY w _ y) ground.T.g named
  exact law_run (hY w _ y) ground.T.g ground.T.b ground.T.builtins ground.T.nolimit none script whole (Nat.le_trans few hn2) room all bound (fun H only seen => start w H a ns few only seen) fun _ _ _ h => h
end Gx
set_option Elab.async false
set_option linter.all false
set_option maxRecDepth 100000
set_option maxHeartbeats 8000000
namespace K15
open PySem PySem.Spec PyProof.Rows L2 Evl Bx
section
variable {P : Program} {w : World} {K : PySem.W.Frag} {mg : Str → Option Value} {base : Heap}
def sp_law (K : PySem.W.Frag) : Sp := fun vs H Q _ => ∃ (a : Addr) (ns : List Int), vs = [.ref a] ∧ SqL K H a (ns.map V.int) ∧ ns.length ≤ 63 ∧ ∀ H', Q (.bl true) H'
theorem best_some {ts : Tm.Terms} {x y : Tm.Wd} {m : Tm.Wd × Tm.Wd} (h1 : Sx x y ts m.1 m.2) (h2 : ∀ r ∈ Tm.rows x y ts, Sx x y ts r.1.1 r.1.2 → ¬ Tm.plt r.1 m) : Tm.Best (Sx x y ts) (some m) := by
  refine ⟨h1, fun u v h => ?_⟩
  obtain ⟨r, hr, q⟩ := Tm.sumAt_mem h
  have := h2 r hr
  rw [q] at this
  exact this h
theorem zero_none {ts : Tm.Terms} {x y : Tm.Wd} (h : ∀ e ∈ ts, ∀ c ∈ Tm.cuts3 e.1, Mx.cnt c.2.1 x = Mx.cnt c.2.1 y) : Tm.Best (Sx x y ts) none := fun u v ne => ne (Tm.sum_zero fun r hr => by
  obtain ⟨e, he, hr⟩ := List.mem_flatMap.mp hr
  obtain ⟨c, hc, rfl⟩ := List.mem_map.mp hr
  have z : Tm.gapOf x y e.2 c.2.1 = 0 := by
    unfold Tm.gapOf
    rw [h e he c hc, Int.sub_self, Int.mul_zero]
  show (if (c.1, c.2.2) = (u, v) then Tm.gapOf x y e.2 c.2.1 else 0) = 0
  rw [z]
  split <;> rfl)
theorem no_a (w : Tm.Wd) : ∀ N, Mx.cnt (97 :: w) (List.replicate N 98) = 0
  | 0 => rfl
  | N + 1 => by
    rw [List.replicate_succ, Mx.cnt_c, no_a w N, if_neg (by decide)]
theorem flat_b : ∀ N, (List.replicate N [98]).flatten = List.replicate N 98
  | 0 => rfl
  | N + 1 => by
    rw [List.replicate_succ, List.flatten_cons, flat_b N, List.replicate_succ]
    rfl
def A1 : Tm.Terms := [([97, 98, 99], 1)]
def A2 : Tm.Terms := [([97, 97, 97, 98], 1), ([98, 98, 97, 98], 1)]
def A3 : Tm.Terms := [([97, 98, 99, 100, 101], 1)]
def A4 : Tm.Terms := [([97, 98, 99, 100, 101, 102, 103, 104, 105, 106, 107, 108], 1)]
def A5 : Tm.Terms := [([], 4)]
def A6 : Tm.Terms := [([97, 97, 97], 1)]
def A7 : Tm.Terms := [([97, 98, 97], 1)]
theorem b1 : Tm.Best (Sx [98] [99] (Tm.nf A1)) (some ([97], [99])) := best_some (by decide +kernel) (by decide +kernel)
theorem b2 : Tm.Best (Sx [97, 98] [98, 97] (Tm.nf A2)) (some ([98], [98])) := best_some (by decide +kernel) (by decide +kernel)
theorem b3 : Tm.Best (Sx [99] [100] (Tm.nf A3)) (some ([97, 98], [100, 101])) := best_some (by decide +kernel) (by decide +kernel)
theorem b4 : Tm.Best (Sx [102] [103] (Tm.nf A4)) (some ([97, 98, 99, 100, 101], [103, 104, 105, 106, 107, 108])) := best_some (by decide +kernel) (by decide +kernel)
theorem b7 : Tm.Best (Sx [97, 98] [98, 97] (Tm.nf A7)) (some ([], [97])) := best_some (by decide +kernel) (by decide +kernel)
theorem b5 : Tm.Best (Sx [97, 98] [99] (Tm.nf A5)) none := zero_none fun e he c hc => by
  obtain ⟨x, hx, q⟩ := Tm.nf_words A5 e he
  rw [← q, List.mem_singleton.mp hx] at hc
  cases hc
theorem b6 (N : Nat) : Tm.Best (Sx (List.replicate N 98) [] (Tm.nf A6)) none := zero_none fun e he c hc => by
  obtain ⟨x, hx, q⟩ := Tm.nf_words A6 e he
  rw [← q, List.mem_singleton.mp hx] at hc
  have all : ∀ c ∈ Tm.cuts3 [97, 97, 97], c.2.1.head? = some 97 := by decide
  have h := all c hc
  cases hm : c.2.1 with
  | nil => rw [hm] at h; cases h
  | cons a w =>
    rw [hm] at h
    cases h
    rw [no_a]
    rfl
theorem b0 (x y : Tm.Wd) : Tm.Best (Sx x y (Tm.nf [])) none := zero_none fun e he => by cases he
theorem fine_few {ts : Tm.Terms} (h1 : ∀ e ∈ ts, ∀ c ∈ e.1, 97 ≤ c ∧ c ≤ 122) (h2 : ∀ e ∈ ts, e.1.length ≤ 12 ∧ e.2.natAbs < 1000) (h3 : ts.length ≤ 100) : Fine ts :=
  ⟨h1, fun e he => by have := (h2 e he).1; omega, by omega, fun e he => Nat.lt_of_lt_of_le (h2 e he).2 (Nat.le_trans (by decide : 1000 ≤ 2 ^ 10) (Nat.pow_le_pow_right (by decide) (by decide)))⟩
theorem small_ask {ts : Tm.Terms} (h : ts.length ≤ 60) (l : ∀ e ∈ ts, e.1.length ≤ 12) (sz : Tm.size ts ≤ 1000) : Tm.Nf (Tm.nf ts) ∧ (Tm.nf ts).length ≤ 100 ∧ ∀ e ∈ Tm.nf ts, e.1.length ≤ 20 ∧ e.2.natAbs < 2 ^ 4000 := by
  refine ⟨Tm.nf_nf ts, by have := Tm.nf_len ts; omega, fun e he => ⟨?_, ?_⟩⟩
  · obtain ⟨x, hx, q⟩ := Tm.nf_words ts e he
    rw [← q]
    have := l x hx
    omega
  · have := Nat.le_trans (Tm.size_mem he) (Nat.le_trans (Tm.nf_size ts) sz)
    exact Nat.lt_of_le_of_lt this (Nat.lt_of_lt_of_le (by decide : 1000 < 2 ^ 10) (Nat.pow_le_pow_right (by decide) (by decide)))
theorem ok_law (T : Tx K mg) : FnOk P w K mg base CX0 7 T.a_law T.fd_law ["_law_script"] (sp_law K) := by
  refine T.F_law.ok sc_law (fun vs H Q E h => ?_) (fun cdv A outer s H vs Q E hr h => ?_)
  · obtain ⟨_, _, rfl, _⟩ := h
    rfl
  · obtain ⟨a, ns, rfl, hS, hl, q⟩ := h
    refine ⟨_, (pss_cons (ps_for PassesOwn.never rfl (pi_range1 (by rfl) T.n_range (pa_cons pe_int pa_nil)) (pg_name (i := 1) sc_law.nd rfl (by first | exact Or.inl rfl | exact Or.inr rfl)) (pss_one (ps_if (pt_not (pt_val (pe_call (ok__law_right T) (hr.mono (by decide)) (by rfl) T.g__law_right T.F__law_right.kp (b__law_right T) .nil pass0 (pa_cons (pe_call (ok__law_generator T) (hr.mono (by decide)) (by rfl) T.g__law_generator T.F__law_generator.kp (b__law_generator T) .nil pass0 (pa_cons (pv 0) (pa_cons (pv 1) pa_nil))) pa_nil)))) (pss_one (ps_ret pe_bl)) pss_nil))) (pss_cons (ps_if (pt_not (pt_val (pe_call (ok__law_same T) (hr.mono (by decide)) (by rfl) T.g__law_same T.F__law_same.kp (b__law_same T) .nil pass0 (pa_cons (pe_call (ok_changes T) (hr.mono (by decide)) (by rfl) T.g_changes T.F_changes.kp (b_changes T) .nil pass0 (pa_cons (pe_make T.mk_Sum (ok_Sum_init T) (hr.mono (by decide)) (by rfl) T.g_Sum (b_Sum_init T) .nil pass0 (pa_cons (pe_lst (pa_cons (pe_tup (pa_cons pe_str (pa_cons pe_int pa_nil))) pa_nil)) pa_nil)) (pa_cons pe_str (pa_cons pe_str pa_nil)))) (pa_cons (pe_tup (pa_cons pe_str (pa_cons pe_str pa_nil))) pa_nil))))) (pss_one (ps_ret pe_bl)) pss_nil) (pss_cons (ps_if (pt_not (pt_val (pe_call (ok__law_same T) (hr.mono (by decide)) (by rfl) T.g__law_same T.F__law_same.kp (b__law_same T) .nil pass0 (pa_cons (pe_call (ok_changes T) (hr.mono (by decide)) (by rfl) T.g_changes T.F_changes.kp (b_changes T) .nil pass0 (pa_cons (pe_make T.mk_Sum (ok_Sum_init T) (hr.mono (by decide)) (by rfl) T.g_Sum (b_Sum_init T) .nil pass0 (pa_cons (pe_lst (pa_cons (pe_tup (pa_cons pe_str (pa_cons pe_int pa_nil))) (pa_cons (pe_tup (pa_cons pe_str (pa_cons pe_int pa_nil))) pa_nil))) pa_nil)) (pa_cons pe_str (pa_cons pe_str pa_nil)))) (pa_cons (pe_tup (pa_cons pe_str (pa_cons pe_str pa_nil))) pa_nil))))) (pss_one (ps_ret pe_bl)) pss_nil) (pss_cons (ps_if (pt_not (pt_val (pe_call (ok__law_same T) (hr.mono (by decide)) (by rfl) T.g__law_same T.F__law_same.kp (b__law_same T) .nil pass0 (pa_cons (pe_call (ok_changes T) (hr.mono (by decide)) (by rfl) T.g_changes T.F_changes.kp (b_changes T) .nil pass0 (pa_cons (pe_make T.mk_Sum (ok_Sum_init T) (hr.mono (by decide)) (by rfl) T.g_Sum (b_Sum_init T) .nil pass0 (pa_cons (pe_lst (pa_cons (pe_tup (pa_cons pe_str (pa_cons pe_int pa_nil))) pa_nil)) pa_nil)) (pa_cons pe_str (pa_cons pe_str pa_nil)))) (pa_cons (pe_tup (pa_cons pe_str (pa_cons pe_str pa_nil))) pa_nil))))) (pss_one (ps_ret pe_bl)) pss_nil) (pss_cons (ps_if (pt_not (pt_val (pe_call (ok__law_same T) (hr.mono (by decide)) (by rfl) T.g__law_same T.F__law_same.kp (b__law_same T) .nil pass0 (pa_cons (pe_call (ok_changes T) (hr.mono (by decide)) (by rfl) T.g_changes T.F_changes.kp (b_changes T) .nil pass0 (pa_cons (pe_make T.mk_Sum (ok_Sum_init T) (hr.mono (by decide)) (by rfl) T.g_Sum (b_Sum_init T) .nil pass0 (pa_cons (pe_lst (pa_cons (pe_tup (pa_cons pe_str (pa_cons pe_int pa_nil))) pa_nil)) pa_nil)) (pa_cons pe_str (pa_cons pe_str pa_nil)))) (pa_cons (pe_tup (pa_cons pe_str (pa_cons pe_str pa_nil))) pa_nil))))) (pss_one (ps_ret pe_bl)) pss_nil) (pss_cons (ps_if (PW.pt (pw_or (pt_cmpR op_notN (pe_call (ok_changes T) (hr.mono (by decide)) (by rfl) T.g_changes T.F_changes.kp (b_changes T) .nil pass0 (pa_cons (pe_make T.mk_Sum (ok_Sum_init T) (hr.mono (by decide)) (by rfl) T.g_Sum (b_Sum_init T) .nil pass0 (pa_cons (pe_lst (pa_cons (pe_tup (pa_cons pe_str (pa_cons pe_int pa_nil))) pa_nil)) pa_nil)) (pa_cons pe_str (pa_cons pe_str pa_nil)))) pe_non (nomark _)) (pw_or1 (pt_cmpR op_notN (pe_call (ok_changes T) (hr.mono (by decide)) (by rfl) T.g_changes T.F_changes.kp (b_changes T) .nil pass0 (pa_cons (pe_make T.mk_Sum (ok_Sum_init T) (hr.mono (by decide)) (by rfl) T.g_Sum (b_Sum_init T) .nil pass0 (pa_cons (pe_lst (pa_cons (pe_tup (pa_cons pe_str (pa_cons pe_int pa_nil))) pa_nil)) pa_nil)) (pa_cons (pe_op Bx.op_repS pe_str pe_int) (pa_cons pe_str pa_nil)))) pe_non (nomark _))))) (pss_one (ps_ret pe_bl)) pss_nil) (pss_one (ps_ret (pe_and (pe_call (ok__law_same T) (hr.mono (by decide)) (by rfl) T.g__law_same T.F__law_same.kp (b__law_same T) .nil pass0 (pa_cons (pe_call (ok_changes T) (hr.mono (by decide)) (by rfl) T.g_changes T.F_changes.kp (b_changes T) .nil pass0 (pa_cons (pe_make T.mk_Sum (ok_Sum_init T) (hr.mono (by decide)) (by rfl) T.g_Sum (b_Sum_init T) .nil pass0 (pa_cons (pe_lst (pa_cons (pe_tup (pa_cons pe_str (pa_cons pe_int pa_nil))) pa_nil)) pa_nil)) (pa_cons pe_str (pa_cons pe_str pa_nil)))) (pa_cons (pe_tup (pa_cons pe_str (pa_cons pe_str pa_nil))) pa_nil))) (pe_one (pe_cmpR op_isN (pe_call (ok_changes T) (hr.mono (by decide)) (by rfl) T.g_changes T.F_changes.kp (b_changes T) .nil pass0 (pa_cons (pe_make T.mk_Sum (ok_Sum_init T) (hr.mono (by decide)) (by rfl) T.g_Sum (b_Sum_init T) .nil pass0 (pa_cons (pe_lst pa_nil) pa_nil)) (pa_cons pe_str (pa_cons pe_str pa_nil)))) pe_non (nomark _)))))))))))), ?_⟩
    refine ⟨3, rfl, by decide, by decide, for_range (lo := 0) (n := 3) (fun i σ H2 => ∃ y, σ = [some (.ref a), y] ∧ Ex H H2) ⟨none, rfl, Ex.refl H⟩ (fun i σ H2 hi hp => ?_) (fun σ H2 hp => ?_)⟩
    · obtain ⟨y, rfl, e2⟩ := hp
      have e0 : (0 : Int) + (i : Nat) = (i : Nat) := Int.zero_add _
      rw [e0]
      refine ⟨_, rfl, _, rfl, a, ns, i, rfl, ex_l e2 hS, by omega, fun g H3 e3 g0 g3 => ?_⟩
      refine ⟨g, 1000 * i, rfl, g3, by omega, fun H4 x4 => ⟨true, rfl, iteF ⟨_, rfl, fun b o hb => ?_⟩⟩⟩
      have h3 := e3 b o (e2 b o hb)
      exact x4 b o (fun z => by
        have := e2 b o hb
        rw [z] at this
        rw [this] at g0
        cases g0) h3
    · obtain ⟨y, rfl, e2⟩ := hp
      have two : 2 ≤ sizeLine := sz_of (by omega)
      have one_ : 1 ≤ sizeLine := sz_of (by omega)
      have low : ∀ {l : List Nat}, (∀ c ∈ l, 97 ≤ c ∧ c ≤ 122) → Low l := fun h => h
      -- A1
      refine ⟨two, fun ta nta => ⟨one_, fun pa npa => ?_⟩⟩
      refine make_sum T (ts := A1) ⟨[.ref ta], .inl (.inl upd_same), ⟨ta, rfl, .inl (.inl (ex_upd npa _ _ upd_same))⟩, trivial⟩ (fine_few (by decide) (by decide) (by decide)) fun x3 H3 e3 hz3 => ⟨rfl, ?_⟩
      obtain ⟨s1, s2, s3⟩ := small_ask (ts := A1) (by decide) (by decide) (by decide)
      refine ⟨_, _, [98], [99], rfl, hz3, s1, s2, s3, low (by decide), by decide, low (by decide), by decide, fun o z H4 hb e4 hz => ?_⟩
      rw [hb.one b1] at hz
      refine ⟨two, fun t nt => ⟨z, .ref t, _, rfl, hz.ex (ex_upd nt), ⟨t, rfl, .inl (.inl upd_same)⟩, ⟨low (by decide), low (by decide)⟩, true, rfl, iteF ?_⟩⟩
      -- A2
      refine ⟨two, fun t1 n1 => ⟨two, fun t2 n2 => ⟨two, fun pc npc => ?_⟩⟩⟩
      refine make_sum T (ts := A2) ⟨[.ref t1, .ref t2], .inl (.inl upd_same), ⟨t1, rfl, .inl (.inl (ex_upd npc _ _ (ex_upd n2 _ _ upd_same)))⟩, ⟨t2, rfl, .inl (.inl (ex_upd npc _ _ upd_same))⟩, trivial⟩ (fine_few (by decide) (by decide) (by decide)) fun x5 H5 e5 hz5 => ⟨rfl, ?_⟩
      obtain ⟨s1, s2, s3⟩ := small_ask (ts := A2) (by decide) (by decide) (by decide)
      refine ⟨_, _, [97, 98], [98, 97], rfl, hz5, s1, s2, s3, low (by decide), by decide, low (by decide), by decide, fun o z H6 hb e6 hz => ?_⟩
      rw [hb.one b2] at hz
      refine ⟨two, fun t nt => ⟨z, .ref t, _, rfl, hz.ex (ex_upd nt), ⟨t, rfl, .inl (.inl upd_same)⟩, ⟨low (by decide), low (by decide)⟩, true, rfl, iteF ?_⟩⟩
      -- A3
      refine ⟨two, fun ta nta => ⟨one_, fun pa npa => ?_⟩⟩
      refine make_sum T (ts := A3) ⟨[.ref ta], .inl (.inl upd_same), ⟨ta, rfl, .inl (.inl (ex_upd npa _ _ upd_same))⟩, trivial⟩ (fine_few (by decide) (by decide) (by decide)) fun x7 H7 e7 hz7 => ⟨rfl, ?_⟩
      obtain ⟨s1, s2, s3⟩ := small_ask (ts := A3) (by decide) (by decide) (by decide)
      refine ⟨_, _, [99], [100], rfl, hz7, s1, s2, s3, low (by decide), by decide, low (by decide), by decide, fun o z H8 hb e8 hz => ?_⟩
      rw [hb.one b3] at hz
      refine ⟨two, fun t nt => ⟨z, .ref t, _, rfl, hz.ex (ex_upd nt), ⟨t, rfl, .inl (.inl upd_same)⟩, ⟨low (by decide), low (by decide)⟩, true, rfl, iteF ?_⟩⟩
      -- A4
      refine ⟨two, fun ta nta => ⟨one_, fun pa npa => ?_⟩⟩
      refine make_sum T (ts := A4) ⟨[.ref ta], .inl (.inl upd_same), ⟨ta, rfl, .inl (.inl (ex_upd npa _ _ upd_same))⟩, trivial⟩ (fine_few (by decide) (by decide) (by decide)) fun x9 H9 e9 hz9 => ⟨rfl, ?_⟩
      obtain ⟨s1, s2, s3⟩ := small_ask (ts := A4) (by decide) (by decide) (by decide)
      refine ⟨_, _, [102], [103], rfl, hz9, s1, s2, s3, low (by decide), by decide, low (by decide), by decide, fun o z H10 hb e10 hz => ?_⟩
      rw [hb.one b4] at hz
      refine ⟨two, fun t nt => ⟨z, .ref t, _, rfl, hz.ex (ex_upd nt), ⟨t, rfl, .inl (.inl upd_same)⟩, ⟨low (by decide), low (by decide)⟩, true, rfl, iteF ?_⟩⟩
      -- A5
      refine ⟨two, fun ta nta => ⟨one_, fun pa npa => ?_⟩⟩
      refine make_sum T (ts := A5) ⟨[.ref ta], .inl (.inl upd_same), ⟨ta, rfl, .inl (.inl (ex_upd npa _ _ upd_same))⟩, trivial⟩ (fine_few (by decide) (by decide) (by decide)) fun x11 H11 e11 hz11 => ⟨rfl, ?_⟩
      obtain ⟨s1, s2, s3⟩ := small_ask (ts := A5) (by decide) (by decide) (by decide)
      refine ⟨_, _, [97, 98], [99], rfl, hz11, s1, s2, s3, low (by decide), by decide, low (by decide), by decide, fun o z H12 hb e12 hz => ?_⟩
      rw [hb.one b5] at hz
      cases hz
      refine ⟨rfl, false, rfl, iteF ?_⟩
      -- A6
      refine ⟨two, fun ta nta => ⟨one_, fun pa npa => ?_⟩⟩
      refine make_sum T (ts := A6) ⟨[.ref ta], .inl (.inl upd_same), ⟨ta, rfl, .inl (.inl (ex_upd npa _ _ upd_same))⟩, trivial⟩ (fine_few (by decide) (by decide) (by decide)) fun x13 H13 e13 hz13 => ⟨rfl, ?_⟩
      obtain ⟨s1, s2, s3⟩ := small_ask (ts := A6) (by decide) (by decide) (by decide)
      obtain ⟨N, hN⟩ : ∃ N : Nat, N = 300 := ⟨_, rfl⟩
      refine ⟨[98], N, by rfl, by rw [hN]; rfl, by rw [hN]; decide, by rw [hN]; decide, ?_⟩
      rw [flat_b]
      refine ⟨_, _, List.replicate N 98, [], rfl, hz13, s1, s2, s3, fun c hc => by rw [(List.mem_replicate.mp hc).2]; decide, by rw [List.length_replicate, hN]; decide, low (by decide), by decide, fun o z H14 hb e14 hz => ?_⟩
      rw [hb.one (b6 N)] at hz
      cases hz
      refine ⟨rfl, false, rfl, iteF ?_⟩
      -- A7
      refine ⟨two, fun ta nta => ⟨one_, fun pa npa => ?_⟩⟩
      refine make_sum T (ts := A7) ⟨[.ref ta], .inl (.inl upd_same), ⟨ta, rfl, .inl (.inl (ex_upd npa _ _ upd_same))⟩, trivial⟩ (fine_few (by decide) (by decide) (by decide)) fun x15 H15 e15 hz15 => ⟨rfl, ?_⟩
      obtain ⟨s1, s2, s3⟩ := small_ask (ts := A7) (by decide) (by decide) (by decide)
      refine ⟨_, _, [97, 98], [98, 97], rfl, hz15, s1, s2, s3, low (by decide), by decide, low (by decide), by decide, fun o z H16 hb e16 hz => ?_⟩
      rw [hb.one b7] at hz
      refine ⟨two, fun t nt => ⟨z, .ref t, _, rfl, hz.ex (ex_upd nt), ⟨t, rfl, .inl (.inl upd_same)⟩, ⟨low (by decide), low (by decide)⟩, true, rfl, iteT ?_⟩⟩
      refine ⟨Nat.zero_le _, fun pb npb => ?_⟩
      refine make_sum T (ts := []) ⟨[], .inl (.inl upd_same), trivial⟩ (fine_few (by decide) (by decide) (by decide)) fun x2 H20 e20 hz2 => ⟨rfl, ?_⟩
      obtain ⟨s1, s2, s3⟩ := small_ask (ts := []) (by decide) (by decide) (by decide)
      refine ⟨_, _, [97], [], rfl, hz2, s1, s2, s3, low (by decide), by decide, low (by decide), by decide, fun o z H21 hb e21 hz => ?_⟩
      rw [hb.one (b0 _ _)] at hz
      cases hz
      exact ⟨rfl, q _⟩
end
theorem all_mk {l : PySem.W.OpenLaw} {w : World} {K : PySem.W.Frag} {h : Heap} {mg : Str → Option Value} {fa : Addr} {f_0 f_1 f_2 f_3 f_4 f_5 f_6 f_7 f_8 f_9 f_10 f_11 f_12 f_13 f_14 f_15 f_16 f_17 f_18 f_19 f_20 f_21 f_22 f_23 f_24 f_25 f_26 f_27 f_28 f_29 f_30 f_31 f_32 f_33 f_34 f_35 f_36 f_37 : Addr} {C_Sum : Addr} (X : K.In h) (G : h.Ns mainGlobals mg) (hfa : mg "law" = some (.ref fa))
    {od_0 an_0 : Option Addr} {sl_0 : Array (Option Value)} {oc_0 kV_0 dc_0 pm_0 cd_0 ct_0 : Value}
    (p_0 : PySem.W.nsIn K mainGlobals "_law_same" = some (some (.ref f_0))) (l_0 : K.lookup f_0 = some ⟨oc_0, od_0, .func (PySem.W.fnOf "_law_same" "_law_same" (defArgs s__law_same) (defBody s__law_same) (defScope s__law_same) .none kV_0 dc_0 pm_0 an_0 cd_0 ct_0), sl_0⟩) (c_0 : PySem.W.codeIn K cd_0 "_law_same" = true) (k_0 : PySem.W.keepIn K (.ref f_0) = true)
    {od_1 an_1 : Option Addr} {sl_1 : Array (Option Value)} {oc_1 kV_1 dc_1 pm_1 cd_1 ct_1 : Value}
    (p_1 : PySem.W.nsIn K mainGlobals "_law_hash" = some (some (.ref f_1))) (l_1 : K.lookup f_1 = some ⟨oc_1, od_1, .func (PySem.W.fnOf "_law_hash" "_law_hash" (defArgs s__law_hash) (defBody s__law_hash) (defScope s__law_hash) .none kV_1 dc_1 pm_1 an_1 cd_1 ct_1), sl_1⟩) (c_1 : PySem.W.codeIn K cd_1 "_law_hash" = true) (k_1 : PySem.W.keepIn K (.ref f_1) = true)
    {od_2 an_2 : Option Addr} {sl_2 : Array (Option Value)} {oc_2 kV_2 dc_2 pm_2 cd_2 ct_2 : Value}
    (p_2 : PySem.W.nsIn K mainGlobals "_law_random" = some (some (.ref f_2))) (l_2 : K.lookup f_2 = some ⟨oc_2, od_2, .func (PySem.W.fnOf "_law_random" "_law_random" (defArgs s__law_random) (defBody s__law_random) (defScope s__law_random) .none kV_2 dc_2 pm_2 an_2 cd_2 ct_2), sl_2⟩) (c_2 : PySem.W.codeIn K cd_2 "_law_random" = true) (k_2 : PySem.W.keepIn K (.ref f_2) = true)
    {od_3 an_3 : Option Addr} {sl_3 : Array (Option Value)} {oc_3 kV_3 dc_3 pm_3 cd_3 ct_3 : Value}
    (p_3 : PySem.W.nsIn K mainGlobals "_law_signs" = some (some (.ref f_3))) (l_3 : K.lookup f_3 = some ⟨oc_3, od_3, .func (PySem.W.fnOf "_law_signs" "_law_signs" (defArgs s__law_signs) (defBody s__law_signs) (defScope s__law_signs) .none kV_3 dc_3 pm_3 an_3 cd_3 ct_3), sl_3⟩) (c_3 : PySem.W.codeIn K cd_3 "_law_signs" = true) (k_3 : PySem.W.keepIn K (.ref f_3) = true)
    {od_4 an_4 : Option Addr} {sl_4 : Array (Option Value)} {oc_4 kV_4 dc_4 pm_4 cd_4 ct_4 : Value}
    (p_4 : PySem.W.nsIn K mainGlobals "_law_word" = some (some (.ref f_4))) (l_4 : K.lookup f_4 = some ⟨oc_4, od_4, .func (PySem.W.fnOf "_law_word" "_law_word" (defArgs s__law_word) (defBody s__law_word) (defScope s__law_word) .none kV_4 dc_4 pm_4 an_4 cd_4 ct_4), sl_4⟩) (c_4 : PySem.W.codeIn K cd_4 "_law_word" = true) (k_4 : PySem.W.keepIn K (.ref f_4) = true)
    {od_5 an_5 : Option Addr} {sl_5 : Array (Option Value)} {oc_5 kV_5 dc_5 pm_5 cd_5 ct_5 : Value}
    (p_5 : PySem.W.nsIn K mainGlobals "_law_number" = some (some (.ref f_5))) (l_5 : K.lookup f_5 = some ⟨oc_5, od_5, .func (PySem.W.fnOf "_law_number" "_law_number" (defArgs s__law_number) (defBody s__law_number) (defScope s__law_number) .none kV_5 dc_5 pm_5 an_5 cd_5 ct_5), sl_5⟩) (c_5 : PySem.W.codeIn K cd_5 "_law_number" = true) (k_5 : PySem.W.keepIn K (.ref f_5) = true)
    {od_6 an_6 : Option Addr} {sl_6 : Array (Option Value)} {oc_6 kV_6 dc_6 pm_6 cd_6 ct_6 : Value}
    (p_6 : PySem.W.nsIn K mainGlobals "_law_terms" = some (some (.ref f_6))) (l_6 : K.lookup f_6 = some ⟨oc_6, od_6, .func (PySem.W.fnOf "_law_terms" "_law_terms" (defArgs s__law_terms) (defBody s__law_terms) (defScope s__law_terms) .none kV_6 dc_6 pm_6 an_6 cd_6 ct_6), sl_6⟩) (c_6 : PySem.W.codeIn K cd_6 "_law_terms" = true) (k_6 : PySem.W.keepIn K (.ref f_6) = true)
    {od_7 an_7 : Option Addr} {sl_7 : Array (Option Value)} {oc_7 kV_7 dc_7 pm_7 cd_7 ct_7 : Value}
    (p_7 : PySem.W.nsIn K mainGlobals "_law_all_texts" = some (some (.ref f_7))) (l_7 : K.lookup f_7 = some ⟨oc_7, od_7, .func (PySem.W.fnOf "_law_all_texts" "_law_all_texts" (defArgs s__law_all_texts) (defBody s__law_all_texts) (defScope s__law_all_texts) .none kV_7 dc_7 pm_7 an_7 cd_7 ct_7), sl_7⟩) (c_7 : PySem.W.codeIn K cd_7 "_law_all_texts" = true) (k_7 : PySem.W.keepIn K (.ref f_7) = true)
    {od_8 an_8 : Option Addr} {sl_8 : Array (Option Value)} {oc_8 kV_8 dc_8 pm_8 cd_8 ct_8 : Value}
    (p_8 : PySem.W.nsIn K mainGlobals "_law_drawn" = some (some (.ref f_8))) (l_8 : K.lookup f_8 = some ⟨oc_8, od_8, .func (PySem.W.fnOf "_law_drawn" "_law_drawn" (defArgs s__law_drawn) (defBody s__law_drawn) (defScope s__law_drawn) .none kV_8 dc_8 pm_8 an_8 cd_8 ct_8), sl_8⟩) (c_8 : PySem.W.codeIn K cd_8 "_law_drawn" = true) (k_8 : PySem.W.keepIn K (.ref f_8) = true)
    {od_9 an_9 : Option Addr} {sl_9 : Array (Option Value)} {oc_9 kV_9 dc_9 pm_9 cd_9 ct_9 : Value}
    (p_9 : PySem.W.nsIn K mainGlobals "_law_two_texts" = some (some (.ref f_9))) (l_9 : K.lookup f_9 = some ⟨oc_9, od_9, .func (PySem.W.fnOf "_law_two_texts" "_law_two_texts" (defArgs s__law_two_texts) (defBody s__law_two_texts) (defScope s__law_two_texts) .none kV_9 dc_9 pm_9 an_9 cd_9 ct_9), sl_9⟩) (c_9 : PySem.W.codeIn K cd_9 "_law_two_texts" = true) (k_9 : PySem.W.keepIn K (.ref f_9) = true)
    {od_10 an_10 : Option Addr} {sl_10 : Array (Option Value)} {oc_10 kV_10 dc_10 pm_10 cd_10 ct_10 : Value}
    (p_10 : PySem.W.nsIn K mainGlobals "_law_pairs" = some (some (.ref f_10))) (l_10 : K.lookup f_10 = some ⟨oc_10, od_10, .func (PySem.W.fnOf "_law_pairs" "_law_pairs" (defArgs s__law_pairs) (defBody s__law_pairs) (defScope s__law_pairs) .none kV_10 dc_10 pm_10 an_10 cd_10 ct_10), sl_10⟩) (c_10 : PySem.W.codeIn K cd_10 "_law_pairs" = true) (k_10 : PySem.W.keepIn K (.ref f_10) = true)
    {od_11 an_11 : Option Addr} {sl_11 : Array (Option Value)} {oc_11 kV_11 dc_11 pm_11 cd_11 ct_11 : Value}
    (p_11 : PySem.W.nsIn K mainGlobals "_law_count" = some (some (.ref f_11))) (l_11 : K.lookup f_11 = some ⟨oc_11, od_11, .func (PySem.W.fnOf "_law_count" "_law_count" (defArgs s__law_count) (defBody s__law_count) (defScope s__law_count) .none kV_11 dc_11 pm_11 an_11 cd_11 ct_11), sl_11⟩) (c_11 : PySem.W.codeIn K cd_11 "_law_count" = true) (k_11 : PySem.W.keepIn K (.ref f_11) = true)
    {od_12 an_12 : Option Addr} {sl_12 : Array (Option Value)} {oc_12 kV_12 dc_12 pm_12 cd_12 ct_12 : Value}
    (p_12 : PySem.W.nsIn K mainGlobals "_law_worth" = some (some (.ref f_12))) (l_12 : K.lookup f_12 = some ⟨oc_12, od_12, .func (PySem.W.fnOf "_law_worth" "_law_worth" (defArgs s__law_worth) (defBody s__law_worth) (defScope s__law_worth) .none kV_12 dc_12 pm_12 an_12 cd_12 ct_12), sl_12⟩) (c_12 : PySem.W.codeIn K cd_12 "_law_worth" = true) (k_12 : PySem.W.keepIn K (.ref f_12) = true)
    {od_13 an_13 : Option Addr} {sl_13 : Array (Option Value)} {oc_13 kV_13 dc_13 pm_13 cd_13 ct_13 : Value}
    (p_13 : PySem.W.nsIn K mainGlobals "_law_gap" = some (some (.ref f_13))) (l_13 : K.lookup f_13 = some ⟨oc_13, od_13, .func (PySem.W.fnOf "_law_gap" "_law_gap" (defArgs s__law_gap) (defBody s__law_gap) (defScope s__law_gap) .none kV_13 dc_13 pm_13 an_13 cd_13 ct_13), sl_13⟩) (c_13 : PySem.W.codeIn K cd_13 "_law_gap" = true) (k_13 : PySem.W.keepIn K (.ref f_13) = true)
    {od_14 an_14 : Option Addr} {sl_14 : Array (Option Value)} {oc_14 kV_14 dc_14 pm_14 cd_14 ct_14 : Value}
    (p_14 : PySem.W.nsIn K mainGlobals "_law_first_pair" = some (some (.ref f_14))) (l_14 : K.lookup f_14 = some ⟨oc_14, od_14, .func (PySem.W.fnOf "_law_first_pair" "_law_first_pair" (defArgs s__law_first_pair) (defBody s__law_first_pair) (defScope s__law_first_pair) .none kV_14 dc_14 pm_14 an_14 cd_14 ct_14), sl_14⟩) (c_14 : PySem.W.codeIn K cd_14 "_law_first_pair" = true) (k_14 : PySem.W.keepIn K (.ref f_14) = true)
    {od_15 an_15 : Option Addr} {sl_15 : Array (Option Value)} {oc_15 kV_15 dc_15 pm_15 cd_15 ct_15 : Value}
    (l_15 : K.lookup f_15 = some ⟨oc_15, od_15, .func (PySem.W.fnOf "terms" "Sum.terms" (defArgs s_Sum_terms) (defBody s_Sum_terms) (defScope s_Sum_terms) .none kV_15 dc_15 pm_15 an_15 cd_15 ct_15), sl_15⟩) (c_15 : PySem.W.codeIn K cd_15 "Sum.terms" = true) (k_15 : PySem.W.keepIn K (.ref f_15) = true) (m_15 : PySem.W.findIn K (.ref C_Sum) "terms" = some (some (.ref f_15))) (i_15 : PySem.W.isFn K (.ref f_15) = true)
    {od_16 an_16 : Option Addr} {sl_16 : Array (Option Value)} {oc_16 kV_16 dc_16 pm_16 cd_16 ct_16 : Value}
    (p_16 : PySem.W.nsIn K mainGlobals "_law_is_sum" = some (some (.ref f_16))) (l_16 : K.lookup f_16 = some ⟨oc_16, od_16, .func (PySem.W.fnOf "_law_is_sum" "_law_is_sum" (defArgs s__law_is_sum) (defBody s__law_is_sum) (defScope s__law_is_sum) .none kV_16 dc_16 pm_16 an_16 cd_16 ct_16), sl_16⟩) (c_16 : PySem.W.codeIn K cd_16 "_law_is_sum" = true) (k_16 : PySem.W.keepIn K (.ref f_16) = true)
    {od_17 an_17 : Option Addr} {sl_17 : Array (Option Value)} {oc_17 kV_17 dc_17 pm_17 cd_17 ct_17 : Value}
    (p_17 : PySem.W.nsIn K mainGlobals "is_text" = some (some (.ref f_17))) (l_17 : K.lookup f_17 = some ⟨oc_17, od_17, .func (PySem.W.fnOf "is_text" "is_text" (defArgs s_is_text) (defBody s_is_text) (defScope s_is_text) .none kV_17 dc_17 pm_17 an_17 cd_17 ct_17), sl_17⟩) (c_17 : PySem.W.codeIn K cd_17 "is_text" = true) (k_17 : PySem.W.keepIn K (.ref f_17) = true)
    {od_18 an_18 : Option Addr} {sl_18 : Array (Option Value)} {oc_18 kV_18 dc_18 pm_18 cd_18 ct_18 : Value}
    (p_18 : PySem.W.nsIn K mainGlobals "is_whole" = some (some (.ref f_18))) (l_18 : K.lookup f_18 = some ⟨oc_18, od_18, .func (PySem.W.fnOf "is_whole" "is_whole" (defArgs s_is_whole) (defBody s_is_whole) (defScope s_is_whole) .none kV_18 dc_18 pm_18 an_18 cd_18 ct_18), sl_18⟩) (c_18 : PySem.W.codeIn K cd_18 "is_whole" = true) (k_18 : PySem.W.keepIn K (.ref f_18) = true)
    {od_19 an_19 : Option Addr} {sl_19 : Array (Option Value)} {oc_19 kV_19 dc_19 pm_19 cd_19 ct_19 : Value}
    (p_19 : PySem.W.nsIn K mainGlobals "_are_terms" = some (some (.ref f_19))) (l_19 : K.lookup f_19 = some ⟨oc_19, od_19, .func (PySem.W.fnOf "_are_terms" "_are_terms" (defArgs s__are_terms) (defBody s__are_terms) (defScope s__are_terms) .none kV_19 dc_19 pm_19 an_19 cd_19 ct_19), sl_19⟩) (c_19 : PySem.W.codeIn K cd_19 "_are_terms" = true) (k_19 : PySem.W.keepIn K (.ref f_19) = true)
    {od_20 an_20 : Option Addr} {sl_20 : Array (Option Value)} {oc_20 kV_20 dc_20 pm_20 cd_20 ct_20 : Value}
    (p_20 : PySem.W.nsIn K mainGlobals "in_order" = some (some (.ref f_20))) (l_20 : K.lookup f_20 = some ⟨oc_20, od_20, .func (PySem.W.fnOf "in_order" "in_order" (defArgs s_in_order) (defBody s_in_order) (defScope s_in_order) .none kV_20 dc_20 pm_20 an_20 cd_20 ct_20), sl_20⟩) (c_20 : PySem.W.codeIn K cd_20 "in_order" = true) (k_20 : PySem.W.keepIn K (.ref f_20) = true)
    {od_21 an_21 : Option Addr} {sl_21 : Array (Option Value)} {oc_21 kV_21 dc_21 pm_21 cd_21 ct_21 : Value}
    (l_21 : K.lookup f_21 = some ⟨oc_21, od_21, .func (PySem.W.fnOf "__init__" "Sum.__init__" (defArgs s_Sum_init) (defBody s_Sum_init) (defScope s_Sum_init) .none kV_21 dc_21 pm_21 an_21 cd_21 ct_21), sl_21⟩) (c_21 : PySem.W.codeIn K cd_21 "Sum.__init__" = true) (k_21 : PySem.W.keepIn K (.ref f_21) = true) (m_21 : PySem.W.findIn K (.ref C_Sum) "__init__" = some (some (.ref f_21))) (i_21 : PySem.W.isFn K (.ref f_21) = true)
    {od_22 an_22 : Option Addr} {sl_22 : Array (Option Value)} {oc_22 kV_22 dc_22 pm_22 cd_22 ct_22 : Value}
    (p_22 : PySem.W.nsIn K mainGlobals "need_text" = some (some (.ref f_22))) (l_22 : K.lookup f_22 = some ⟨oc_22, od_22, .func (PySem.W.fnOf "need_text" "need_text" (defArgs s_need_text) (defBody s_need_text) (defScope s_need_text) .none kV_22 dc_22 pm_22 an_22 cd_22 ct_22), sl_22⟩) (c_22 : PySem.W.codeIn K cd_22 "need_text" = true) (k_22 : PySem.W.keepIn K (.ref f_22) = true)
    {od_23 an_23 : Option Addr} {sl_23 : Array (Option Value)} {oc_23 kV_23 dc_23 pm_23 cd_23 ct_23 : Value}
    (p_23 : PySem.W.nsIn K mainGlobals "_spots" = some (some (.ref f_23))) (l_23 : K.lookup f_23 = some ⟨oc_23, od_23, .func (PySem.W.fnOf "_spots" "_spots" (defArgs s__spots) (defBody s__spots) (defScope s__spots) .none kV_23 dc_23 pm_23 an_23 cd_23 ct_23), sl_23⟩) (c_23 : PySem.W.codeIn K cd_23 "_spots" = true) (k_23 : PySem.W.keepIn K (.ref f_23) = true)
    {od_24 an_24 : Option Addr} {sl_24 : Array (Option Value)} {oc_24 kV_24 dc_24 pm_24 cd_24 ct_24 : Value}
    (p_24 : PySem.W.nsIn K mainGlobals "_steps" = some (some (.ref f_24))) (l_24 : K.lookup f_24 = some ⟨oc_24, od_24, .func (PySem.W.fnOf "_steps" "_steps" (defArgs s__steps) (defBody s__steps) (defScope s__steps) .none kV_24 dc_24 pm_24 an_24 cd_24 ct_24), sl_24⟩) (c_24 : PySem.W.codeIn K cd_24 "_steps" = true) (k_24 : PySem.W.keepIn K (.ref f_24) = true)
    {od_25 an_25 : Option Addr} {sl_25 : Array (Option Value)} {oc_25 kV_25 dc_25 pm_25 cd_25 ct_25 : Value}
    (p_25 : PySem.W.nsIn K mainGlobals "beginning_counts" = some (some (.ref f_25))) (l_25 : K.lookup f_25 = some ⟨oc_25, od_25, .func (PySem.W.fnOf "beginning_counts" "beginning_counts" (defArgs s_beginning_counts) (defBody s_beginning_counts) (defScope s_beginning_counts) .none kV_25 dc_25 pm_25 an_25 cd_25 ct_25), sl_25⟩) (c_25 : PySem.W.codeIn K cd_25 "beginning_counts" = true) (k_25 : PySem.W.keepIn K (.ref f_25) = true)
    {od_26 an_26 : Option Addr} {sl_26 : Array (Option Value)} {oc_26 kV_26 dc_26 pm_26 cd_26 ct_26 : Value}
    (l_26 : K.lookup f_26 = some ⟨oc_26, od_26, .func (PySem.W.fnOf "worth" "Sum.worth" (defArgs s_Sum_worth) (defBody s_Sum_worth) (defScope s_Sum_worth) .none kV_26 dc_26 pm_26 an_26 cd_26 ct_26), sl_26⟩) (c_26 : PySem.W.codeIn K cd_26 "Sum.worth" = true) (k_26 : PySem.W.keepIn K (.ref f_26) = true) (m_26 : PySem.W.findIn K (.ref C_Sum) "worth" = some (some (.ref f_26))) (i_26 : PySem.W.isFn K (.ref f_26) = true)
    {od_27 an_27 : Option Addr} {sl_27 : Array (Option Value)} {oc_27 kV_27 dc_27 pm_27 cd_27 ct_27 : Value}
    (p_27 : PySem.W.nsIn K mainGlobals "need_sum" = some (some (.ref f_27))) (l_27 : K.lookup f_27 = some ⟨oc_27, od_27, .func (PySem.W.fnOf "need_sum" "need_sum" (defArgs s_need_sum) (defBody s_need_sum) (defScope s_need_sum) .none kV_27 dc_27 pm_27 an_27 cd_27 ct_27), sl_27⟩) (c_27 : PySem.W.codeIn K cd_27 "need_sum" = true) (k_27 : PySem.W.keepIn K (.ref f_27) = true)
    {od_28 an_28 : Option Addr} {sl_28 : Array (Option Value)} {oc_28 kV_28 dc_28 pm_28 cd_28 ct_28 : Value}
    (p_28 : PySem.W.nsIn K mainGlobals "_first_pair" = some (some (.ref f_28))) (l_28 : K.lookup f_28 = some ⟨oc_28, od_28, .func (PySem.W.fnOf "_first_pair" "_first_pair" (defArgs s__first_pair) (defBody s__first_pair) (defScope s__first_pair) .none kV_28 dc_28 pm_28 an_28 cd_28 ct_28), sl_28⟩) (c_28 : PySem.W.codeIn K cd_28 "_first_pair" = true) (k_28 : PySem.W.keepIn K (.ref f_28) = true)
    {od_29 an_29 : Option Addr} {sl_29 : Array (Option Value)} {oc_29 kV_29 dc_29 pm_29 cd_29 ct_29 : Value}
    (p_29 : PySem.W.nsIn K mainGlobals "part_counts" = some (some (.ref f_29))) (l_29 : K.lookup f_29 = some ⟨oc_29, od_29, .func (PySem.W.fnOf "part_counts" "part_counts" (defArgs s_part_counts) (defBody s_part_counts) (defScope s_part_counts) .none kV_29 dc_29 pm_29 an_29 cd_29 ct_29), sl_29⟩) (c_29 : PySem.W.codeIn K cd_29 "part_counts" = true) (k_29 : PySem.W.keepIn K (.ref f_29) = true)
    {od_30 an_30 : Option Addr} {sl_30 : Array (Option Value)} {oc_30 kV_30 dc_30 pm_30 cd_30 ct_30 : Value}
    (p_30 : PySem.W.nsIn K mainGlobals "_cuts" = some (some (.ref f_30))) (l_30 : K.lookup f_30 = some ⟨oc_30, od_30, .func (PySem.W.fnOf "_cuts" "_cuts" (defArgs s__cuts) (defBody s__cuts) (defScope s__cuts) .none kV_30 dc_30 pm_30 an_30 cd_30 ct_30), sl_30⟩) (c_30 : PySem.W.codeIn K cd_30 "_cuts" = true) (k_30 : PySem.W.keepIn K (.ref f_30) = true)
    {od_31 an_31 : Option Addr} {sl_31 : Array (Option Value)} {oc_31 kV_31 dc_31 pm_31 cd_31 ct_31 : Value}
    (p_31 : PySem.W.nsIn K mainGlobals "changes" = some (some (.ref f_31))) (l_31 : K.lookup f_31 = some ⟨oc_31, od_31, .func (PySem.W.fnOf "changes" "changes" (defArgs s_changes) (defBody s_changes) (defScope s_changes) .none kV_31 dc_31 pm_31 an_31 cd_31 ct_31), sl_31⟩) (c_31 : PySem.W.codeIn K cd_31 "changes" = true) (k_31 : PySem.W.keepIn K (.ref f_31) = true)
    {od_32 an_32 : Option Addr} {sl_32 : Array (Option Value)} {oc_32 kV_32 dc_32 pm_32 cd_32 ct_32 : Value}
    (p_32 : PySem.W.nsIn K mainGlobals "_law_kept_right" = some (some (.ref f_32))) (l_32 : K.lookup f_32 = some ⟨oc_32, od_32, .func (PySem.W.fnOf "_law_kept_right" "_law_kept_right" (defArgs s__law_kept_right) (defBody s__law_kept_right) (defScope s__law_kept_right) .none kV_32 dc_32 pm_32 an_32 cd_32 ct_32), sl_32⟩) (c_32 : PySem.W.codeIn K cd_32 "_law_kept_right" = true) (k_32 : PySem.W.keepIn K (.ref f_32) = true)
    {od_33 an_33 : Option Addr} {sl_33 : Array (Option Value)} {oc_33 kV_33 dc_33 pm_33 cd_33 ct_33 : Value}
    (p_33 : PySem.W.nsIn K mainGlobals "_law_normal" = some (some (.ref f_33))) (l_33 : K.lookup f_33 = some ⟨oc_33, od_33, .func (PySem.W.fnOf "_law_normal" "_law_normal" (defArgs s__law_normal) (defBody s__law_normal) (defScope s__law_normal) .none kV_33 dc_33 pm_33 an_33 cd_33 ct_33), sl_33⟩) (c_33 : PySem.W.codeIn K cd_33 "_law_normal" = true) (k_33 : PySem.W.keepIn K (.ref f_33) = true)
    {od_34 an_34 : Option Addr} {sl_34 : Array (Option Value)} {oc_34 kV_34 dc_34 pm_34 cd_34 ct_34 : Value}
    (p_34 : PySem.W.nsIn K mainGlobals "_law_right" = some (some (.ref f_34))) (l_34 : K.lookup f_34 = some ⟨oc_34, od_34, .func (PySem.W.fnOf "_law_right" "_law_right" (defArgs s__law_right) (defBody s__law_right) (defScope s__law_right) .none kV_34 dc_34 pm_34 an_34 cd_34 ct_34), sl_34⟩) (c_34 : PySem.W.codeIn K cd_34 "_law_right" = true) (k_34 : PySem.W.keepIn K (.ref f_34) = true)
    {od_35 an_35 : Option Addr} {sl_35 : Array (Option Value)} {oc_35 kV_35 dc_35 pm_35 cd_35 ct_35 : Value}
    (p_35 : PySem.W.nsIn K mainGlobals "_law_cell" = some (some (.ref f_35))) (l_35 : K.lookup f_35 = some ⟨oc_35, od_35, .func (PySem.W.fnOf "_law_cell" "_law_cell" (defArgs s__law_cell) (defBody s__law_cell) (defScope s__law_cell) .none kV_35 dc_35 pm_35 an_35 cd_35 ct_35), sl_35⟩) (c_35 : PySem.W.codeIn K cd_35 "_law_cell" = true) (k_35 : PySem.W.keepIn K (.ref f_35) = true)
    {od_36 an_36 : Option Addr} {sl_36 : Array (Option Value)} {oc_36 kV_36 dc_36 pm_36 cd_36 ct_36 : Value}
    (p_36 : PySem.W.nsIn K mainGlobals "_law_generator" = some (some (.ref f_36))) (l_36 : K.lookup f_36 = some ⟨oc_36, od_36, .func (PySem.W.fnOf "_law_generator" "_law_generator" (defArgs s__law_generator) (defBody s__law_generator) (defScope s__law_generator) .none kV_36 dc_36 pm_36 an_36 cd_36 ct_36), sl_36⟩) (c_36 : PySem.W.codeIn K cd_36 "_law_generator" = true) (k_36 : PySem.W.keepIn K (.ref f_36) = true)
    {od_37 an_37 : Option Addr} {sl_37 : Array (Option Value)} {oc_37 kV_37 dc_37 pm_37 cd_37 ct_37 : Value}
    (p_37 : PySem.W.nsIn K mainGlobals "law" = some (some (.ref f_37))) (l_37 : K.lookup f_37 = some ⟨oc_37, od_37, .func (PySem.W.fnOf "law" "law" (defArgs s_law) (defBody s_law) (defScope s_law) .none kV_37 dc_37 pm_37 an_37 cd_37 ct_37), sl_37⟩) (c_37 : PySem.W.codeIn K cd_37 "law" = true) (k_37 : PySem.W.keepIn K (.ref f_37) = true)
    (aC_Sum : PySem.W.nsIn K mainGlobals "Sum" = some (some (.ref C_Sum))) (pg_Sum : PySem.W.plainGet K C_Sum Str.empty = true) (hd_Sum : PySem.W.hasDictIn K C_Sum = true) (po_Sum : PySem.W.plainOver K C_Sum = true) (sa_Sum : PySem.W.findIn K (.ref C_Sum) "__setattr__" = some (some (.builtin "object.__setattr__"))) (mk_Sum : PySem.W.makesIn K C_Sum = true) (kc_Sum : PySem.W.keepIn K (.ref C_Sum) = true)
    (no_Sum__terms : PySem.W.findIn K (.ref C_Sum) "_terms" = some none)
    (ia_Sum : PySem.W.findIn K (.ref C_Sum) "__class__" = some (some (.builtin "object.__class__"))) (ib_Sum : PySem.W.specialIn K (.builtin "object.__class__") "__get__" = some (some (.builtin "getset_descriptor.__get__"))) (ic_Sum : PySem.W.takesIn K (.builtin "object.__class__") = some true) (id_Sum : PySem.W.mroIn K C_Sum (.type "object") = some true)
    (z_0 : PySem.W.nsIn K mainGlobals "isinstance" = some none)
    (z_1 : PySem.W.nsIn K mainGlobals "tuple" = some none)
    (z_2 : PySem.W.nsIn K mainGlobals "int" = some none)
    (z_3 : PySem.W.nsIn K mainGlobals "range" = some none)
    (z_4 : PySem.W.nsIn K mainGlobals "list" = some none)
    (z_5 : PySem.W.nsIn K mainGlobals "sorted" = some none)
    (z_6 : PySem.W.nsIn K mainGlobals "len" = some none)
    (z_7 : PySem.W.nsIn K mainGlobals "sum" = some none)
    (z_8 : PySem.W.nsIn K mainGlobals "max" = some none)
    (z_9 : PySem.W.nsIn K mainGlobals "bool" = some none)
    (z_10 : PySem.W.nsIn K mainGlobals "str" = some none)
    (z_11 : PySem.W.nsIn K mainGlobals "min" = some none)
    : ∃ fd : FuncData, (∀ (s : Shared) (v : Value), BindsTo s fd ⟨[v], []⟩ [("_law_script", v)]) ∧ ∀ base : Heap, K.In base → base.Ns mainGlobals mg → FnOk l.prog w K mg base CX0 7 fa fd ["_law_script"] (sp_law K) := by
  have e := hfa.symm.trans (PySem.W.mg_of X G p_37)
  cases e
  have F_0 := fun_mk (st := s__law_same) l_0 c_0 k_0
  have F_1 := fun_mk (st := s__law_hash) l_1 c_1 k_1
  have F_2 := fun_mk (st := s__law_random) l_2 c_2 k_2
  have F_3 := fun_mk (st := s__law_signs) l_3 c_3 k_3
  have F_4 := fun_mk (st := s__law_word) l_4 c_4 k_4
  have F_5 := fun_mk (st := s__law_number) l_5 c_5 k_5
  have F_6 := fun_mk (st := s__law_terms) l_6 c_6 k_6
  have F_7 := fun_mk (st := s__law_all_texts) l_7 c_7 k_7
  have F_8 := fun_mk (st := s__law_drawn) l_8 c_8 k_8
  have F_9 := fun_mk (st := s__law_two_texts) l_9 c_9 k_9
  have F_10 := fun_mk (st := s__law_pairs) l_10 c_10 k_10
  have F_11 := fun_mk (st := s__law_count) l_11 c_11 k_11
  have F_12 := fun_mk (st := s__law_worth) l_12 c_12 k_12
  have F_13 := fun_mk (st := s__law_gap) l_13 c_13 k_13
  have F_14 := fun_mk (st := s__law_first_pair) l_14 c_14 k_14
  have F_15 := fun_mk (st := s_Sum_terms) l_15 c_15 k_15
  have F_16 := fun_mk (st := s__law_is_sum) l_16 c_16 k_16
  have F_17 := fun_mk (st := s_is_text) l_17 c_17 k_17
  have F_18 := fun_mk (st := s_is_whole) l_18 c_18 k_18
  have F_19 := fun_mk (st := s__are_terms) l_19 c_19 k_19
  have F_20 := fun_mk (st := s_in_order) l_20 c_20 k_20
  have F_21 := fun_mk (st := s_Sum_init) l_21 c_21 k_21
  have F_22 := fun_mk (st := s_need_text) l_22 c_22 k_22
  have F_23 := fun_mk (st := s__spots) l_23 c_23 k_23
  have F_24 := fun_mk (st := s__steps) l_24 c_24 k_24
  have F_25 := fun_mk (st := s_beginning_counts) l_25 c_25 k_25
  have F_26 := fun_mk (st := s_Sum_worth) l_26 c_26 k_26
  have F_27 := fun_mk (st := s_need_sum) l_27 c_27 k_27
  have F_28 := fun_mk (st := s__first_pair) l_28 c_28 k_28
  have F_29 := fun_mk (st := s_part_counts) l_29 c_29 k_29
  have F_30 := fun_mk (st := s__cuts) l_30 c_30 k_30
  have F_31 := fun_mk (st := s_changes) l_31 c_31 k_31
  have F_32 := fun_mk (st := s__law_kept_right) l_32 c_32 k_32
  have F_33 := fun_mk (st := s__law_normal) l_33 c_33 k_33
  have F_34 := fun_mk (st := s__law_right) l_34 c_34 k_34
  have F_35 := fun_mk (st := s__law_cell) l_35 c_35 k_35
  have F_36 := fun_mk (st := s__law_generator) l_36 c_36 k_36
  have F_37 := fun_mk (st := s_law) l_37 c_37 k_37
  let T : Tx K mg := ⟨_, _, F_0, PySem.W.mg_of X G p_0, _, _, F_1, PySem.W.mg_of X G p_1, _, _, F_2, PySem.W.mg_of X G p_2, _, _, F_3, PySem.W.mg_of X G p_3, _, _, F_4, PySem.W.mg_of X G p_4, _, _, F_5, PySem.W.mg_of X G p_5, _, _, F_6, PySem.W.mg_of X G p_6, _, _, F_7, PySem.W.mg_of X G p_7, _, _, F_8, PySem.W.mg_of X G p_8, _, _, F_9, PySem.W.mg_of X G p_9, _, _, F_10, PySem.W.mg_of X G p_10, _, _, F_11, PySem.W.mg_of X G p_11, _, _, F_12, PySem.W.mg_of X G p_12, _, _, F_13, PySem.W.mg_of X G p_13, _, _, F_14, PySem.W.mg_of X G p_14, _, _, F_15, _, _, F_16, PySem.W.mg_of X G p_16, _, _, F_17, PySem.W.mg_of X G p_17, _, _, F_18, PySem.W.mg_of X G p_18, _, _, F_19, PySem.W.mg_of X G p_19, _, _, F_20, PySem.W.mg_of X G p_20, _, _, F_21, _, _, F_22, PySem.W.mg_of X G p_22, _, _, F_23, PySem.W.mg_of X G p_23, _, _, F_24, PySem.W.mg_of X G p_24, _, _, F_25, PySem.W.mg_of X G p_25, _, _, F_26, _, _, F_27, PySem.W.mg_of X G p_27, _, _, F_28, PySem.W.mg_of X G p_28, _, _, F_29, PySem.W.mg_of X G p_29, _, _, F_30, PySem.W.mg_of X G p_30, _, _, F_31, PySem.W.mg_of X G p_31, _, _, F_32, PySem.W.mg_of X G p_32, _, _, F_33, PySem.W.mg_of X G p_33, _, _, F_34, PySem.W.mg_of X G p_34, _, _, F_35, PySem.W.mg_of X G p_35, _, _, F_36, PySem.W.mg_of X G p_36, _, _, F_37, PySem.W.mg_of X G p_37, _, PySem.W.mg_of X G aC_Sum, ⟨pg_Sum, hd_Sum, po_Sum, sa_Sum⟩, ⟨mk_Sum, m_21, i_21, kc_Sum⟩, ⟨m_15, i_15, k_15⟩, ⟨m_26, i_26, k_26⟩, no_Sum__terms, ia_Sum, ib_Sum, ic_Sum, id_Sum, PySem.W.mg_none_of X G z_0, PySem.W.mg_none_of X G z_1, PySem.W.mg_none_of X G z_2, PySem.W.mg_none_of X G z_3, PySem.W.mg_none_of X G z_4, PySem.W.mg_none_of X G z_5, PySem.W.mg_none_of X G z_6, PySem.W.mg_none_of X G z_7, PySem.W.mg_none_of X G z_8, PySem.W.mg_none_of X G z_9, PySem.W.mg_none_of X G z_10, PySem.W.mg_none_of X G z_11⟩
  exact ⟨PySem.W.fnOf "law" "law" (defArgs s_law) (defBody s_law) (defScope s_law) .none kV_37 dc_37 pm_37 an_37 cd_37 ct_37, fun s v => .of_eq rfl, fun base _ _ => ok_law T⟩
end K15
open PySem PySem.W PyProof.Rows
set_option maxRecDepth 100000 in
set_option maxHeartbeats 0 in
theorem PySem.Challenge.cw_skipcounts_k15_whole_texts_in_place_of_o_holds : PySem.Challenge.rw_skipcounts_k15_whole_texts_in_place_of_o.Holds := by
  w_on; o_law; k_head; (case hw => w_witness2)
  k_fill
  refine L2.walk_of (l := PySem.Challenge.rw_skipcounts_k15_whole_texts_in_place_of_o) (n := 63) (k := 7) (x := "_law_script") (CX := fun _ => L2.CX0) (sp := fun w => K15.sp_law _) rfl (by decide) rfl ⟨rfl, by decide, by decide⟩ (fun w h Y => PySem.W.kIn_of Y) ?F (fun _ _ a ns hl _ hS => ⟨a, ns, rfl, hS, hl, fun _ => rfl⟩) (fun _ _ _ _ _ h => h)
  case F =>
    intro w mg fa h KX G hmg
    refine' K15.all_mk KX G hmg ?p_0 ?l_0 ?c_0 ?k_0 ?p_1 ?l_1 ?c_1 ?k_1 ?p_2 ?l_2 ?c_2 ?k_2 ?p_3 ?l_3 ?c_3 ?k_3 ?p_4 ?l_4 ?c_4 ?k_4 ?p_5 ?l_5 ?c_5 ?k_5 ?p_6 ?l_6 ?c_6 ?k_6 ?p_7 ?l_7 ?c_7 ?k_7 ?p_8 ?l_8 ?c_8 ?k_8 ?p_9 ?l_9 ?c_9 ?k_9 ?p_10 ?l_10 ?c_10 ?k_10 ?p_11 ?l_11 ?c_11 ?k_11 ?p_12 ?l_12 ?c_12 ?k_12 ?p_13 ?l_13 ?c_13 ?k_13 ?p_14 ?l_14 ?c_14 ?k_14 ?l_15 ?c_15 ?k_15 ?m_15 ?i_15 ?p_16 ?l_16 ?c_16 ?k_16 ?p_17 ?l_17 ?c_17 ?k_17 ?p_18 ?l_18 ?c_18 ?k_18 ?p_19 ?l_19 ?c_19 ?k_19 ?p_20 ?l_20 ?c_20 ?k_20 ?l_21 ?c_21 ?k_21 ?m_21 ?i_21 ?p_22 ?l_22 ?c_22 ?k_22 ?p_23 ?l_23 ?c_23 ?k_23 ?p_24 ?l_24 ?c_24 ?k_24 ?p_25 ?l_25 ?c_25 ?k_25 ?l_26 ?c_26 ?k_26 ?m_26 ?i_26 ?p_27 ?l_27 ?c_27 ?k_27 ?p_28 ?l_28 ?c_28 ?k_28 ?p_29 ?l_29 ?c_29 ?k_29 ?p_30 ?l_30 ?c_30 ?k_30 ?p_31 ?l_31 ?c_31 ?k_31 ?p_32 ?l_32 ?c_32 ?k_32 ?p_33 ?l_33 ?c_33 ?k_33 ?p_34 ?l_34 ?c_34 ?k_34 ?p_35 ?l_35 ?c_35 ?k_35 ?p_36 ?l_36 ?c_36 ?k_36 ?p_37 ?l_37 ?c_37 ?k_37 ?aC_Sum ?pg_Sum ?hd_Sum ?po_Sum ?sa_Sum ?mk_Sum ?kc_Sum ?no_Sum__terms ?ia_Sum ?ib_Sum ?ic_Sum ?id_Sum ?z_0 ?z_1 ?z_2 ?z_3 ?z_4 ?z_5 ?z_6 ?z_7 ?z_8 ?z_9 ?z_10 ?z_11
    (case aC_Sum => k_is)
    (case m_15 => k_is)
    (case m_21 => k_is)
    (case m_26 => k_is)
    (case p_0 => k_is)
    (case l_0 => k_is)
    (case c_0 => k_is)
    (case k_0 => k_is)
    (case p_1 => k_is)
    (case l_1 => k_is)
    (case c_1 => k_is)
    (case k_1 => k_is)
    (case p_2 => k_is)
    (case l_2 => k_is)
    (case c_2 => k_is)
    (case k_2 => k_is)
    (case p_3 => k_is)
    (case l_3 => k_is)
    (case c_3 => k_is)
    (case k_3 => k_is)
    (case p_4 => k_is)
    (case l_4 => k_is)
    (case c_4 => k_is)
    (case k_4 => k_is)
    (case p_5 => k_is)
    (case l_5 => k_is)
    (case c_5 => k_is)
    (case k_5 => k_is)
    (case p_6 => k_is)
    (case l_6 => k_is)
    (case c_6 => k_is)
    (case k_6 => k_is)
    (case p_7 => k_is)
    (case l_7 => k_is)
    (case c_7 => k_is)
    (case k_7 => k_is)
    (case p_8 => k_is)
    (case l_8 => k_is)
    (case c_8 => k_is)
    (case k_8 => k_is)
    (case p_9 => k_is)
    (case l_9 => k_is)
    (case c_9 => k_is)
    (case k_9 => k_is)
    (case p_10 => k_is)
    (case l_10 => k_is)
    (case c_10 => k_is)
    (case k_10 => k_is)
    (case p_11 => k_is)
    (case l_11 => k_is)
    (case c_11 => k_is)
    (case k_11 => k_is)
    (case p_12 => k_is)
    (case l_12 => k_is)
    (case c_12 => k_is)
    (case k_12 => k_is)
    (case p_13 => k_is)
    (case l_13 => k_is)
    (case c_13 => k_is)
    (case k_13 => k_is)
    (case p_14 => k_is)
    (case l_14 => k_is)
    (case c_14 => k_is)
    (case k_14 => k_is)
    (case p_16 => k_is)
    (case l_16 => k_is)
    (case c_16 => k_is)
    (case k_16 => k_is)
    (case p_17 => k_is)
    (case l_17 => k_is)
    (case c_17 => k_is)
    (case k_17 => k_is)
    (case p_18 => k_is)
    (case l_18 => k_is)
    (case c_18 => k_is)
    (case k_18 => k_is)
    (case p_19 => k_is)
    (case l_19 => k_is)
    (case c_19 => k_is)
    (case k_19 => k_is)
    (case p_20 => k_is)
    (case l_20 => k_is)
    (case c_20 => k_is)
    (case k_20 => k_is)
    (case p_22 => k_is)
    (case l_22 => k_is)
    (case c_22 => k_is)
    (case k_22 => k_is)
    (case p_23 => k_is)
    (case l_23 => k_is)
    (case c_23 => k_is)
    (case k_23 => k_is)
    (case p_24 => k_is)
    (case l_24 => k_is)
    (case c_24 => k_is)
    (case k_24 => k_is)
    (case p_25 => k_is)
    (case l_25 => k_is)
    (case c_25 => k_is)
    (case k_25 => k_is)
    (case p_27 => k_is)
    (case l_27 => k_is)
    (case c_27 => k_is)
    (case k_27 => k_is)
    (case p_28 => k_is)
    (case l_28 => k_is)
    (case c_28 => k_is)
    (case k_28 => k_is)
    (case p_29 => k_is)
    (case l_29 => k_is)
    (case c_29 => k_is)
    (case k_29 => k_is)
    (case p_30 => k_is)
    (case l_30 => k_is)
    (case c_30 => k_is)
    (case k_30 => k_is)
    (case p_31 => k_is)
    (case l_31 => k_is)
    (case c_31 => k_is)
    (case k_31 => k_is)
    (case p_32 => k_is)
    (case l_32 => k_is)
    (case c_32 => k_is)
    (case k_32 => k_is)
    (case p_33 => k_is)
    (case l_33 => k_is)
    (case c_33 => k_is)
    (case k_33 => k_is)
    (case p_34 => k_is)
    (case l_34 => k_is)
    (case c_34 => k_is)
    (case k_34 => k_is)
    (case p_35 => k_is)
    (case l_35 => k_is)
    (case c_35 => k_is)
    (case k_35 => k_is)
    (case p_36 => k_is)
    (case l_36 => k_is)
    (case c_36 => k_is)
    (case k_36 => k_is)
    (case p_37 => k_is)
    (case l_37 => k_is)
    (case c_37 => k_is)
    (case k_37 => k_is)
    (case pg_Sum => k_is)
    (case hd_Sum => k_is)
    (case po_Sum => k_is)
    (case sa_Sum => k_is)
    (case mk_Sum => k_is)
    (case kc_Sum => k_is)
    (case no_Sum__terms => k_is)
    (case ia_Sum => k_is)
    (case ib_Sum => k_is)
    (case ic_Sum => k_is)
    (case id_Sum => k_is)
    (case z_0 => k_is)
    (case z_1 => k_is)
    (case z_2 => k_is)
    (case z_3 => k_is)
    (case z_4 => k_is)
    (case z_5 => k_is)
    (case z_6 => k_is)
    (case z_7 => k_is)
    (case z_8 => k_is)
    (case z_9 => k_is)
    (case z_10 => k_is)
    (case z_11 => k_is)
    (case l_15 => k_is)
    (case c_15 => k_is)
    (case k_15 => k_is)
    (case i_15 => k_is)
    (case l_21 => k_is)
    (case c_21 => k_is)
    (case k_21 => k_is)
    (case i_21 => k_is)
    (case l_26 => k_is)
    (case c_26 => k_is)
    (case k_26 => k_is)
    (case i_26 => k_is)
