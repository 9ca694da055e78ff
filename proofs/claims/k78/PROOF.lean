import PyProof.Rows.All
import Wide.All
import OpenK.AllK
import Wide.FinOn
import HandS.Text
import HandS.Iter
import HandS.Comp
import HandS.Set
import HandS.SetFor
import HandS.Strs
import PyProof.Rows.SortShellAny
import HandS.Style
import HandS.StrMore
import HandS.Wide
import HandS.WideBits
import HandS.RevRange
import HandS.IsInst
import HandS.Replace
import HandS.Conv
import HandS.Evl
import HandS.ForMost
import PyProof.ListStr
import KE.KRevSl
import HandS.Rev
import HandS.Zip
import KE.GoesZip
import KE.GoesEnum
import KE.GoesMore
import HandS.Walk
import PyProof.ReprRoads
import PyProof.EqKinds
import PyProof.StrLawsIn
import PyProof.Rows.StrCase
import PyProof.StrBlock2
import PyProof.FactsAll.dict_1
import HandS.TupAny
import PyProof.Rows.ReprOcc
import PyProof.StrLawsRepr
import PyProof.ReprLen
import KE.SortData
import KE.SortKeyHeap
import KE.KSortKey
import HandS.SortKw
import HandS.DictComp
import PyProof.StrLawsOcc
import PyProof.StrLawsLast
import HandS.ListItems
import KE.KDictZip
import HandS.OwnEq
import HandS.SetKeys
import HandS.WordsDict
import PySem.Challenge.RW_skipcounts_k78_ranks_of_places
set_option Elab.async false
set_option linter.all false
set_option maxRecDepth 100000
set_option maxHeartbeats 4000000
/-! Sx: sets of texts: set(text), set(list of texts), sorted of such a set, its len -/
namespace Sx
open PySem PySem.Spec PyProof.Rows L2
section
variable {P : Program} {w : World} {κ : Type} [DecidableEq κ] {knd : PySem.KeyKind P w κ}
/-- what is known of the payload of a set: kn tells which keys are in, c how many -/
structure Pay (knd : PySem.KeyKind P w κ) (es : Array (Int × Value)) (t : SetTable) (kn : κ → Prop) (c : Nat) : Prop where
  el : ElemsOf knd es.toList
  mm : ∀ k, kn k ↔ ∃ e ∈ es.toList, knd.is k e.2 = true
  lt : es.size < scanBound
  ft : t.fits es.size = true
  sz : es.size = c
  ri : Ris t.place.toList
  ld : w.params.followText "set-order" = true ∨ t.led = true
def Has (knd : PySem.KeyKind P w κ) (h : Heap) (a : Addr) (kn : κ → Prop) (c : Nat) : Prop :=
  ∃ o es ep t, h.get? a = some o ∧ o.ExactSet ∧ o.data = .set es ep t ∧ Pay knd es t kn c
theorem Has.on {h h' : Heap} {a : Addr} {kn : κ → Prop} {c : Nat} (R : Has knd h a kn c) (k : ∀ o, h.get? a = some o → h'.get? a = some o) : Has knd h' a kn c :=
  let ⟨o, es, ep, t, ho, r⟩ := R
  ⟨o, es, ep, t, k o ho, r⟩
theorem Has.say {h : Heap} {a : Addr} {kn kn' : κ → Prop} {c c' : Nat} (R : Has knd h a kn c) (e : ∀ k, kn' k ↔ kn k) (ec : c' = c) : Has knd h a kn' c' := by
  obtain ⟨o, es, ep, t, ho, h1, h2, p⟩ := R
  exact ⟨o, es, ep, t, ho, h1, h2, ⟨p.el, fun k => (e k).trans (p.mm k), p.lt, p.ft, p.sz.trans ec.symm, p.ri, p.ld⟩⟩
end
section
variable {P : Program} {w : World} {κ : Type} [DecidableEq κ] {knd : PySem.KeyKind P w κ} {A : Around} {E : Value → Shared → Prop} {s : Shared} {a : Addr} {kn : κ → Prop} {c : Nat}
theorem store_put {h : Heap} {o : Obj} {es es' : Array (Int × Value)} {ep : Nat} {t t' : SetTable} (ho : h.get? a = some o) (hd : o.data = .set es ep t) :
    (h.update a (Obj.putSet es' t')).get? a = some { o with data := .set es' (ep + 1) t' } := L2.store_at ho hd
/-- the end of an add of something new -/
theorem tail_new {g : Bool → Sem Unit} (hg : ∀ (b : Bool) (s₁ : Shared) (Q' : Unit → Shared → Prop), Q' () s₁ → wpAny (model P w) A (g b) Q' E s₁)
    {o : Obj} {es : Array (Int × Value)} {ep : Nat} {t : SetTable} (ho : s.heap.get? a = some o) (hex : o.ExactSet) (hd : o.data = .set es ep t)
    {es1 : Array (Int × Value)} {t2 : SetTable} (p : Pay knd es1 t2 kn c) {dm : Bool} {R : Option Bool → Shared → Prop}
    (hR : ∀ h', Heap.SameBut a s.heap h' → Has knd h' a kn c → R (some true) { s with heap := h' }) :
    wpAny (model P w) A (do
        storeSet a es1 t2
        if (!dm && t2.tooFull) = true then do
            g (relayAll t2 es1 (SetTable.grown es1.size)).2.2
            storeSet a (relayAll t2 es1 (SetTable.grown es1.size)).1 (relayAll t2 es1 (SetTable.grown es1.size)).2.1
            pure (some true)
          else pure (some true)) R E s := by
  have sb := Heap.SameBut.update s.heap a (Obj.putSet es1 t2)
  refine wpAny_bind (wpAny_storeSet_of ho hd ?_ (fits_of_scanBound p.lt))
  have here := store_put (es' := es1) (t' := t2) ho hd
  split
  · have q1 := relayAll_perm t2 es1 (SetTable.grown es1.size)
    have q2 := relayAll_fits t2 es1 (SetTable.grown es1.size)
    have q3 := relayAll_ris t2 es1 (SetTable.grown es1.size)
    have q4 := relayAll_led t2 es1 (SetTable.grown es1.size)
    generalize relayAll t2 es1 (SetTable.grown es1.size) = Z at q1 q2 q3 q4 ⊢
    obtain ⟨es2, t3, gv⟩ := Z
    dsimp only at q1 q2 q3 q4 ⊢
    have zz : es2.size = es1.size := by rw [← Array.length_toList, q1.length_eq, Array.length_toList]
    have lt2 : es2.size < scanBound := by rw [zz]; exact p.lt
    refine wpAny_bind (hg _ _ _ ?_)
    refine wpAny_bind (wpAny_storeSet_of here rfl ?_ (fits_of_scanBound lt2))
    have there := store_put (es' := es2) (t' := t3) here rfl
    refine wpAny_pure (hR _ (sb.trans (Heap.SameBut.update _ a _)) ⟨_, es2, _, t3, there, hex, rfl, p.el.perm q1, fun k => (p.mm k).trans ?_, lt2, q2, zz.trans p.sz, q3, p.ld.imp id fun z => by rw [q4]; exact z⟩)
    exact ⟨fun ⟨e, he, x⟩ => ⟨e, q1.mem_iff.mpr he, x⟩, fun ⟨e, he, x⟩ => ⟨e, q1.mem_iff.mp he, x⟩⟩
  · exact wpAny_pure (hR _ sb ⟨_, es1, _, t2, here, hex, rfl, p⟩)
/-- one more key: the count goes up if it was not in -/
theorem add_one {k : κ} {x : Value} {Q : Bool → Shared → Prop} (hk : knd.is k x = true) (hx : x.scannable = true) (R : Has knd s.heap a kn c) (room : c + 1 < scanBound)
    (hin : kn k → ∀ h', Heap.SameBut a s.heap h' → Has knd h' a kn c → Q false { s with heap := h' })
    (hnew : ¬ kn k → ∀ h', Heap.SameBut a s.heap h' → Has knd h' a (fun j => kn j ∨ j = k) (c + 1) → Q true { s with heap := h' }) :
    wpAny (model P w) A (setAddHashed a x (knd.hash k)) Q E s := by
  obtain ⟨o, es, ep, t, ho, hex, hd, p⟩ := R
  unfold setAddHashed setAddHashedIn
  refine wpAny_holding (wpAny_bind (wpAny_setState_of ho hd p.ft ?_))
  dsimp only
  rw [byScan_of hx p.lt p.el]
  simp only [↓reduceIte]
  unfold setAddByScan
  refine wpAny_bind (wpAny_bind (wpAny_rule ?_))
  refine wpAny_bind (wpAny_setScan_of hk ho hd p.ft p.el ?_)
  cases hf : List.findIdx? (fun e => knd.is k e.2) es.toList with
  | some j =>
    dsimp only
    obtain ⟨lj, pj, _⟩ := List.findIdx?_eq_some_iff_getElem.mp hf
    refine wpAny_pure (wpAny_pure ?_)
    exact hin ((p.mm k).mpr ⟨es.toList[j], List.getElem_mem lj, pj⟩) s.heap (Heap.SameBut.refl a s.heap) ⟨o, es, ep, t, ho, hex, hd, p⟩
  | none =>
    dsimp only
    have out : ¬ kn k := fun z => by
      obtain ⟨e, he, hp⟩ := (p.mm k).mp z
      have := List.findIdx?_eq_none_iff.mp hf e he
      rw [hp] at this
      exact Bool.noConfusion this
    have gw : ∀ (b : Bool) {s₁ : Shared} {Q' : Unit → Shared → Prop}, Q' () s₁ → wpAny (model P w) A (match b with | true => rule "set.scan.the-table-gave-way" | false => pure ()) Q' E s₁ := by
      intro b s₁ Q' q
      cases b
      · exact wpAny_pure q
      · exact wpAny_rule q
    have q1 := layNew_perm t es (knd.hash k) x
    have q2 := layNew_fits t es (knd.hash k) x
    have q3 := layNew_ris t es (knd.hash k) x p.ri
    have q4 := layNew_led t es (knd.hash k) x
    generalize layNew t es (knd.hash k) x = L at q1 q2 q3 q4 ⊢
    obtain ⟨es1, t1, dm, gv⟩ := L
    dsimp only at q1 q2 q3 q4 ⊢
    rw [Array.toList_push] at q1
    have z1 : es1.size = c + 1 := by
      rw [← Array.length_toList, q1.length_eq, List.length_append, Array.length_toList, p.sz]
      rfl
    have mm1 : ∀ j, (kn j ∨ j = k) ↔ ∃ e ∈ es1.toList, knd.is j e.2 = true := by
      intro j
      constructor
      · rintro (z | rfl)
        · obtain ⟨e, he, q⟩ := (p.mm j).mp z
          exact ⟨e, q1.mem_iff.mpr (List.mem_append_left _ he), q⟩
        · exact ⟨_, q1.mem_iff.mpr (List.mem_append_right _ (List.mem_singleton.mpr rfl)), hk⟩
      · rintro ⟨e, he, q⟩
        rcases List.mem_append.mp (q1.mem_iff.mp he) with z | z
        · exact Or.inl ((p.mm j).mpr ⟨e, z, q⟩)
        · rw [List.mem_singleton] at z
          rw [z] at q
          exact Or.inr (knd.inj x j k q hk)
    have py : ∀ t' : SetTable, t'.fits es1.size = true → Ris t'.place.toList → t'.led = t1.led → Pay knd es1 t' (fun j => kn j ∨ j = k) (c + 1) := fun t' f r l =>
      ⟨(p.el.push hk hx).perm q1, mm1, by rw [z1]; exact room, f, z1, r, p.ld.imp id fun z => by rw [l, q4]; exact z⟩
    refine wpAny_bind (gw _ ?_)
    split
    · refine wpAny_bind ?_
      rw [hashByValue_scannable 8 hx]
      refine wpAny_pure ?_
      refine tail_new (knd := knd) (kn := fun j => kn j ∨ j = k) (c := c + 1) ?_ ho hex hd (py _ ?_ ?_ ?_) ?_
      · intro b s₁ Q' q
        cases b
        · exact wpAny_pure q
        · exact wpAny_rule q
      · split
        · exact q2
        · exact SetTable.fits_plain_off q2
      · split <;> exact q3
      · split <;> rfl
      · intro h' sb r
        dsimp only
        exact wpAny_pure (hnew out h' sb r)
    · refine wpAny_bind (wpAny_pure ?_)
      simp only [↓reduceIte]
      refine tail_new (knd := knd) (kn := fun j => kn j ∨ j = k) (c := c + 1) ?_ ho hex hd (py _ q2 q3 rfl) ?_
      · intro b s₁ Q' q
        cases b
        · exact wpAny_pure q
        · exact wpAny_rule q
      · intro h' sb r
        dsimp only
        exact wpAny_pure (hnew out h' sb r)
theorem has_fresh {h : Heap} : Has knd (h.push { cls := .type "set", dict := none, data := .set #[] 0 (.fresh 0 0 (!w.params.followText "set-order")) }) h.objs.size (fun _ => False) 0 :=
  ⟨_, #[], 0, _, Heap.get?_push_size _ rfl, ⟨rfl, rfl, rfl⟩, rfl, (fun e he => by simp at he), (fun k => by simp), (by decide), (by rfl), rfl, List.Pairwise.nil, by
    show _ ∨ (!w.params.followText "set-order") = true
    cases w.params.followText "set-order"
    · exact Or.inr rfl
    · exact Or.inl rfl⟩
end
end Sx
set_option Elab.async false
set_option linter.all false
set_option maxRecDepth 100000
set_option maxHeartbeats 4000000
namespace Sx
open PySem PySem.Spec PyProof.Rows L2
/-- the unlike ones of a list, each where it comes first -/
def uniq {κ : Type} [DecidableEq κ] : List κ → List κ → List κ
  | acc, [] => acc
  | acc, k :: r => uniq (if k ∈ acc then acc else acc ++ [k]) r
theorem uniq_mem {κ : Type} [DecidableEq κ] : ∀ (ks acc : List κ) (k : κ), k ∈ uniq acc ks ↔ k ∈ acc ∨ k ∈ ks
  | [], acc, k => by simp [uniq]
  | x :: r, acc, k => by
    rw [uniq, uniq_mem r]
    by_cases h : x ∈ acc
    · rw [if_pos h]
      constructor
      · rintro (z | z)
        · exact Or.inl z
        · exact Or.inr (List.mem_cons_of_mem _ z)
      · rintro (z | z)
        · exact Or.inl z
        · rcases List.mem_cons.mp z with e | e
          · subst e; exact Or.inl h
          · exact Or.inr e
    · rw [if_neg h, List.mem_append, List.mem_singleton, List.mem_cons, or_assoc]
theorem uniq_nodup {κ : Type} [DecidableEq κ] : ∀ (ks acc : List κ), acc.Nodup → (uniq acc ks).Nodup
  | [], acc, h => h
  | x :: r, acc, h => by
    rw [uniq]
    apply uniq_nodup r
    by_cases g : x ∈ acc
    · rw [if_pos g]; exact h
    · rw [if_neg g]
      rw [List.nodup_append]
      refine ⟨h, by simp, fun a ha b hb => ?_⟩
      rw [List.mem_singleton] at hb
      subst hb
      exact fun e => g (e ▸ ha)
theorem uniq_len {κ : Type} [DecidableEq κ] : ∀ (ks acc : List κ), (uniq acc ks).length ≤ acc.length + ks.length
  | [], acc => by simp [uniq]
  | x :: r, acc => by
    rw [uniq]
    have q := uniq_len r (if x ∈ acc then acc else acc ++ [x])
    have z : (if x ∈ acc then acc else acc ++ [x]).length ≤ acc.length + 1 := by
      split
      · omega
      · simp
    simp only [List.length_cons]
    omega
theorem uniq_snoc {κ : Type} [DecidableEq κ] : ∀ (ks acc : List κ) (k : κ), uniq acc (ks ++ [k]) = if k ∈ uniq acc ks then uniq acc ks else uniq acc ks ++ [k]
  | [], acc, k => rfl
  | x :: r, acc, k => by
    rw [List.cons_append, uniq, uniq_snoc r, uniq]
/-- all unlike exactly if none goes -/
theorem uniq_all {κ : Type} [DecidableEq κ] : ∀ (ks acc : List κ), acc.Nodup → ((uniq acc ks).length = acc.length + ks.length ↔ (acc ++ ks).Nodup)
  | [], acc, h => by simp [uniq, h]
  | x :: r, acc, h => by
    rw [uniq]
    by_cases g : x ∈ acc
    · rw [if_pos g]
      have q := uniq_len r acc
      constructor
      · intro z
        simp only [List.length_cons] at z
        omega
      · intro z
        rw [List.nodup_append] at z
        exact absurd rfl (z.2.2 x g x List.mem_cons_self)
    · rw [if_neg g]
      have hn : (acc ++ [x]).Nodup := by
        rw [List.nodup_append]
        refine ⟨h, by simp, fun a ha b hb => ?_⟩
        rw [List.mem_singleton] at hb
        subst hb
        exact fun e => g (e ▸ ha)
      have q := uniq_all r (acc ++ [x]) hn
      rw [List.append_assoc] at q
      simp only [List.length_append, List.length_cons, List.length_nil] at q ⊢
      rw [← show acc ++ x :: r = acc ++ ([x] ++ r) from rfl] at q
      rw [← q]
      omega
section
variable {P : Program} {w : World} {κ : Type} [DecidableEq κ] {knd : PySem.KeyKind P w κ} {A : Around} {E : Value → Shared → Prop} {s : Shared}
/-- the keys l, all unlike, are what the set at a has -/
def Lst (knd : PySem.KeyKind P w κ) (h : Heap) (a : Addr) (l : List κ) : Prop := Has knd h a (fun k => k ∈ l) l.length
theorem add_lst {a : Addr} {l : List κ} {k : κ} {x : Value} {Q : Bool → Shared → Prop} (hk : knd.is k x = true) (hx : x.scannable = true) (R : Lst knd s.heap a l) (room : l.length + 1 < scanBound)
    (hQ : ∀ (b : Bool) h', Heap.SameBut a s.heap h' → Lst knd h' a (if k ∈ l then l else l ++ [k]) → Q b { s with heap := h' }) :
    wpAny (model P w) A (setAddHashed a x (knd.hash k)) Q E s := by
  refine add_one (knd := knd) hk hx R room (fun hin h' sb hS2 => hQ _ h' sb ?_) (fun hnew h' sb hS2 => hQ _ h' sb ?_)
  · rw [if_pos hin]
    exact hS2
  · rw [if_neg hnew]
    refine Has.say hS2 (fun j => ?_) (by rw [List.length_append]; rfl)
    rw [List.mem_append, List.mem_singleton]
theorem upd_loop {I : Addr} {fp wr : List Addr} {G : Array GenState → Array GenState → Prop} {n : Nat} {Pv : Nat → Value → Prop} {St : Nat → Shared → Prop} {R : Result → Shared → Prop}
    (W : WalksS P w A.in1 I fp wr G n Pv St) (S : Addr) (out : S ∉ fp) (ks : List κ) (hn : n = ks.length) (hb : ks.length + 1 < scanBound) (hval : ∀ i v, Pv i v → ∃ k, ks[i]? = some k ∧ knd.is k v = true ∧ v.scannable = true) :
    ∀ (k i : Nat) (s : Shared), n - i = k → i ≤ n → St i s → Lst knd s.heap S (uniq [] (ks.take i)) →
      (∀ s', Moved (S :: wr) G s s' → Lst knd s'.heap S (uniq [] ks) → R (.ok (.ret .none)) s') →
      codeAny (model P w) A (.builtin "set.update.loop" ⟨[.ref S, .ref I], []⟩) R s := by
  have hw : S ∉ wr := fun h => out (W.sub _ h)
  have sub : ∀ b ∈ wr, b ∈ S :: wr := fun b hb => List.mem_cons_of_mem _ hb
  intro k
  induction k with
  | zero =>
    intro i s hk hi hst hS hR
    have e0 : i = n := by omega
    subst e0
    refine codeAny_builtin F.entry_set_update_loop ?_
    rw [Around.under_plainId F.plain_set_update_loop _]
    show wpAny _ A.in1 (pyNext (.ref I) >>= _) _ _ s
    refine wpAny_bind (W.done s _ _ hst fun s' hm => ?_)
    show wpAny _ A.in1 (ret Value.none) _ _ s'
    rw [List.take_of_length_le (by omega)] at hS
    exact wpAny_pure (hR s' (hm.mono sub) (Has.on hS fun o e => hm.heap S o hw e))
  | succ k ih =>
    intro i s hk hi hst hS hR
    have lt : i < n := by omega
    refine codeAny_builtin F.entry_set_update_loop ?_
    rw [Around.under_plainId F.plain_set_update_loop _]
    show wpAny _ A.in1 (pyNext (.ref I) >>= _) _ _ s
    refine wpAny_bind (W.item i s _ _ lt hst fun v s' hP hst' hm => ?_)
    obtain ⟨z, hz, iz, sv⟩ := hval i v hP
    have hS' : Lst knd s'.heap S (uniq [] (ks.take i)) := Has.on hS fun o e => hm.heap S o hw e
    show wpAny _ A.in1 (holding [v] (setAdd S v) >>= _) _ _ s'
    refine wpAny_bind (wpAny_holding ?_)
    unfold setAdd
    refine wpAny_holding ?_
    refine wpAny_bind (knd.pyHash (k := z) iz ?_)
    have ln := uniq_len (ks.take i) []
    rw [List.length_take, List.length_nil] at ln
    have tk : ks.take (i + 1) = ks.take i ++ [z] := by
      rw [List.take_add_one, hz]
      rfl
    refine add_lst (s := { s' with toks := s'.toks + 1 }) iz sv hS' (by omega) fun bb h' sb hS2 => ?_
    have hS3 : Lst knd h' S (uniq [] (ks.take (i + 1))) := by
      rw [tk, uniq_snoc]
      exact hS2
    refine wpAny_pure ⟨plainId_quiet F.plain_set_update_loop _, ih (i + 1) _ (by omega) lt (W.frame _ s' _ _ hst' (Nat.le_succ _) fun b hb o e => ?_) hS3 fun s'' hm2 hS4 => ?_⟩
    · rw [sb.2 b (fun h : b = S => out (by rw [← h]; exact hb))]; exact e
    · refine hR s'' (Moved.trans W.gtrans ((hm.mono sub).then_heap (Nat.le_succ _) fun b o hb e => ?_) hm2) hS4
      rw [sb.2 b (fun h : b = S => hb (by rw [h]; exact List.mem_cons_self))]; exact e
end
end Sx
set_option Elab.async false
set_option linter.all false
set_option maxRecDepth 100000
set_option maxHeartbeats 4000000
namespace Sx
open PySem PySem.Spec PyProof.Rows L2
section
variable {P : Program} {w : World} {A : Around} {E : Value → Shared → Prop} {s : Shared}
abbrev kT (P : Program) (w : World) : PySem.KeyKind P w Str := PySem.strKind P w
abbrev nset (w : World) : Obj := { cls := .type "set", dict := none, data := .set #[] 0 (.fresh 0 0 (!w.params.followText "set-order")) }
theorem lst_new {h : Heap} {a : Addr} (ho : h.get? a = some (nset w)) : Lst (kT P w) h a [] :=
  ⟨_, #[], 0, _, ho, ⟨rfl, rfl, rfl⟩, rfl, (fun e he => by simp at he), (fun k => by simp), (by decide), (by rfl), rfl, List.Pairwise.nil, by
    show _ ∨ (!w.params.followText "set-order") = true
    cases w.params.followText "set-order"
    · exact Or.inr rfl
    · exact Or.inl rfl⟩
theorem is_txt (k : Str) (u : Tok) : (kT P w).is k (.str k u) = true := by
  show Value.isStrOf k (.str k u) = true
  simp [Value.isStrOf]
/-- the signs of a text, each as a text -/
def sgs (x : Str) : List Str := x.cps.toList.map fun c => ⟨#[c]⟩
set_option maxRecDepth 100000 in
set_option maxHeartbeats 8000000 in
theorem set_of_text {x : Str} {t : Tok} {Q : Value → Shared → Prop} (hh : A.handled = none) (ha : x.cps.all (· < 128) = true) (hb : x.cps.size + 1 < scanBound)
    (h : ∀ (h' : Heap) (tk : Nat), Lst (kT P w) h' s.heap.objs.size (uniq [] (sgs x)) → (∀ b o, s.heap.get? b = some o → h'.get? b = some o) → Q (.ref s.heap.objs.size) { s with heap := h', toks := tk }) :
    wpAny (model P w) A (call (.type "set") [.str x t]) Q E s := by
  obtain ⟨c, tl, hmro⟩ := F.called_set.mro
  have hmade := F.called_set.made
  have hsub := F.called_set.sub
  refine wpAny_call (codeAny_of_tree ?_)
  show wpAny _ _ (callAny (.type "set") _) _ _ _
  refine wpAny_pure ⟨Code.quiet_builtin _ (by decide +kernel), codeAny_builtin F.entry_type_call ?_⟩
  rw [Around.under_plain (weight_type_call_type "set" [.str x t] []) rfl]
  have h1 := F.called_set.notType
  have h2 := F.called_set.canCreate
  have hct := F.typeCall_set_1 (.str x t)
  repeat (any_goals (first | assumption | wp_step))
  refine codeAny_mono (code_set_led1 (.str x t) (E := E) (Q₁ := fun obj s₁ => obj = .ref s.heap.objs.size ∧ s₁ = { s with heap := s.heap.push (nset w) }) ⟨rfl, rfl⟩) fun r s₁ hr => ?_
  cases r with
  | error e => exact hr
  | ok fl =>
    cases fl with
    | ret obj =>
      obtain ⟨rfl, rfl⟩ := hr
      have hS : (s.heap.push (nset w)).get? s.heap.objs.size = some (nset w) := Heap.get?_push_size _ rfl
      have hT : Shared.TypeIs { s with heap := s.heap.push (nset w) } (.ref s.heap.objs.size) "set" := ⟨_, hS, rfl⟩
      have hli := F.called_set.init.lookup
      have hbi := F.called_set.init.bind (.ref s.heap.objs.size)
      repeat (any_goals (first | assumption | wp_step))
      refine codeAny_mono (codeAny_call_builtin (R := wants (fun r s₂ => r = .none ∧ ∃ h' tk, s₂ = { s with heap := h', toks := tk } ∧ Lst (kT P w) h' s.heap.objs.size (uniq [] (sgs x)) ∧
          (∀ b o, s.heap.get? b = some o → h'.get? b = some o)) E) F.called_set.init.plain F.entry_set_init (check_set_init_1 hT ?_)) fun r₂ s₂ hr₂ => ?_
      · have hs1 := F.sub_str_set
        have hs2 := F.sub_str_frozenset
        have hne : (Value.type "str" == Value.type "dict") = false := by decide
        unfold Builtin.«set.__init__» noKeywords Builtin.Frozenset.updateFrom
        generalize hPI : pyIter = PI
        wp_walk
        subst hPI
        refine wpAny_pyIter_ascii ha ?_
        refine wpAny_bind (wpAny_runValue ?_)
        have hh3 : A.in1.in1.in1.handled = none := by simp [hh]
        have neI : s.heap.objs.size ∉ [(s.heap.push (nset w)).objs.size] := by
          rw [Heap.size_push, List.mem_singleton]
          exact Nat.ne_of_lt (Nat.lt_succ_self _)
        have hl : x.cps.size = (sgs x).length := by
          unfold sgs
          rw [List.length_map, Array.length_toList]
        refine upd_loop (knd := kT P w) ((Walks.strAscii hh3 _ x t).toS) s.heap.objs.size neI (sgs x) hl (by rw [← hl]; exact hb) (fun i v hv => ?_) (x.cps.size - 0) 0 _ (by omega) (Nat.zero_le _)
          ⟨_, Heap.get?_push_size _ rfl, rfl, rfl⟩ (lst_new (Heap.get?_push_of_some _ hS)) fun s' hm hS' => ?_
        · obtain ⟨c, u, hc, rfl⟩ := hv
          refine ⟨⟨#[c]⟩, ?_, is_txt _ _, rfl⟩
          unfold sgs
          rw [List.getElem?_map, Array.getElem?_toList, hc]
          rfl
        · obtain ⟨h', g2, d', tk', os'⟩ := s'
          have eg : g2 = s.gens := hm.gens
          have ed : d' = s.drawn := hm.drawn
          have eo : os' = s.os := hm.os
          subst eg; subst ed; subst eo
          show wpAny _ _ _ _ _ _
          refine wpAny_pure ?_
          show wpAny _ _ (ret Value.none) _ _ _
          refine wpAny_pure ⟨rfl, h', tk', rfl, hS', fun b o e => ?_⟩
          have b0 : b < s.heap.objs.size := Heap.lt_size e
          refine hm.heap b o (fun z => ?_) (Heap.get?_push_of_some _ (Heap.get?_push_of_some _ e))
          rcases List.mem_cons.mp z with z | z
          · rw [z] at b0
            exact Nat.lt_irrefl _ b0
          · rw [List.mem_singleton, Heap.size_push] at z
            rw [z] at b0
            exact Nat.lt_irrefl _ (Nat.lt_trans (Nat.lt_succ_self _) b0)
      · cases r₂ with
        | error e => exact hr₂
        | ok fl₂ =>
          cases fl₂ with
          | ret r =>
            obtain ⟨rfl, h', tk, rfl, hS', hk'⟩ := hr₂
            repeat (any_goals (first | assumption | wp_step))
            exact h _ _ hS' hk'
          | _ => exact hr₂.elim
    | _ => exact hr.elim
set_option maxRecDepth 100000 in
set_option maxHeartbeats 8000000 in
theorem set_of_list {l : Addr} {items : Array Value} {xs : List Str} {Q : Value → Shared → Prop} (hh : A.handled = none) (hl : s.heap.IsList l items) (hit : StrsAre items.toList xs) (hb : xs.length + 1 < scanBound)
    (h : ∀ (h' : Heap) (tk : Nat), Lst (kT P w) h' s.heap.objs.size (uniq [] xs) → (∀ b o, s.heap.get? b = some o → h'.get? b = some o) → Q (.ref s.heap.objs.size) { s with heap := h', toks := tk }) :
    wpAny (model P w) A (call (.type "set") [.ref l]) Q E s := by
  obtain ⟨c, tl, hmro⟩ := F.called_set.mro
  have hmade := F.called_set.made
  have hsub := F.called_set.sub
  refine wpAny_call (codeAny_of_tree ?_)
  show wpAny _ _ (callAny (.type "set") _) _ _ _
  refine wpAny_pure ⟨Code.quiet_builtin _ (by decide +kernel), codeAny_builtin F.entry_type_call ?_⟩
  rw [Around.under_plain (weight_type_call_type "set" [.ref l] []) rfl]
  have h1 := F.called_set.notType
  have h2 := F.called_set.canCreate
  have hct := F.typeCall_set_1 (Value.ref l)
  repeat (any_goals (first | assumption | wp_step))
  refine codeAny_mono (code_set_led1 (Value.ref l) (E := E) (Q₁ := fun obj s₁ => obj = .ref s.heap.objs.size ∧ s₁ = { s with heap := s.heap.push (nset w) }) ⟨rfl, rfl⟩) fun r s₁ hr => ?_
  cases r with
  | error e => exact hr
  | ok fl =>
    cases fl with
    | ret obj =>
      obtain ⟨rfl, rfl⟩ := hr
      have hS : (s.heap.push (nset w)).get? s.heap.objs.size = some (nset w) := Heap.get?_push_size _ rfl
      have hT : Shared.TypeIs { s with heap := s.heap.push (nset w) } (.ref s.heap.objs.size) "set" := ⟨_, hS, rfl⟩
      have hli := F.called_set.init.lookup
      have hbi := F.called_set.init.bind (.ref s.heap.objs.size)
      repeat (any_goals (first | assumption | wp_step))
      refine codeAny_mono (codeAny_call_builtin (R := wants (fun r s₂ => r = .none ∧ ∃ h' tk, s₂ = { s with heap := h', toks := tk } ∧ Lst (kT P w) h' s.heap.objs.size (uniq [] xs) ∧
          (∀ b o, s.heap.get? b = some o → h'.get? b = some o)) E) F.called_set.init.plain F.entry_set_init (check_set_init_1 hT ?_)) fun r₂ s₂ hr₂ => ?_
      · obtain ⟨ol, hol, hcl, nl, hdl⟩ := hl
        obtain ⟨ocls, odict, odata, oslots⟩ := ol
        simp only at hcl hdl
        subst hcl; subst hdl
        have hol' : (s.heap.push (nset w)).get? l = some { cls := .type "list", dict := odict, data := .seq items nl, slots := oslots } := Heap.get?_push_of_some _ hol
        have hl1 : (s.heap.push (nset w)).IsList l items := ⟨_, hol', rfl, nl, rfl⟩
        have hs1 := F.sub_list_set
        have hs2 := F.sub_list_frozenset
        have hne : (Value.type "list" == Value.type "dict") = false := by decide
        unfold Builtin.«set.__init__» noKeywords Builtin.Frozenset.updateFrom
        generalize hPI : pyIter = PI
        wp_walk
        subst hPI
        refine wpAny_pyIter_list hl1 ?_
        refine wpAny_bind (wpAny_runValue ?_)
        have hh3 : A.in1.in1.in1.handled = none := by simp [hh]
        have lS : l < s.heap.objs.size := Heap.lt_size hol
        have hneI : l ≠ (s.heap.push (nset w)).objs.size := by
          rw [Heap.size_push]
          exact Nat.ne_of_lt (Nat.lt_succ_of_lt lS)
        have neI : s.heap.objs.size ∉ [(s.heap.push (nset w)).objs.size, l] := by
          rw [Heap.size_push]
          simp only [List.mem_cons, List.mem_singleton, List.not_mem_nil, or_false, not_or]
          exact ⟨Nat.ne_of_lt (Nat.lt_succ_self _), Nat.ne_of_gt lS⟩
        have hl : items.size = xs.length := by
          have q := StrsAre.len_eq hit
          rw [Array.length_toList] at q
          exact q
        refine upd_loop (knd := kT P w) ((Walks.list hh3 _ l hneI items).toS) s.heap.objs.size neI xs hl hb (fun i v hv => ?_) (items.size - 0) 0 _ (by omega) (Nat.zero_le _)
          ⟨⟨_, Heap.get?_push_size _ rfl, rfl, rfl⟩, (hl1.push _)⟩ (lst_new (Heap.get?_push_of_some _ hS)) fun s' hm hS' => ?_
        · have hi : i < xs.length := by rw [← hl]; exact (Array.getElem?_eq_some_iff.mp hv).1
          obtain ⟨u, e⟩ := SS.strs_at hit i v (by rw [Array.getElem?_toList]; exact hv)
          refine ⟨xs[i], List.getElem?_eq_getElem hi, ?_, by rw [e]; rfl⟩
          rw [e, List.getD_eq_getElem?_getD, List.getElem?_eq_getElem hi]
          exact is_txt _ _
        · obtain ⟨h', g2, d', tk', os'⟩ := s'
          have eg : g2 = s.gens := hm.gens
          have ed : d' = s.drawn := hm.drawn
          have eo : os' = s.os := hm.os
          subst eg; subst ed; subst eo
          show wpAny _ _ _ _ _ _
          refine wpAny_pure ?_
          show wpAny _ _ (ret Value.none) _ _ _
          refine wpAny_pure ⟨rfl, h', tk', rfl, hS', fun b o e => ?_⟩
          have b0 : b < s.heap.objs.size := Heap.lt_size e
          refine hm.heap b o (fun z => ?_) (Heap.get?_push_of_some _ (Heap.get?_push_of_some _ e))
          rcases List.mem_cons.mp z with z | z
          · rw [z] at b0
            exact Nat.lt_irrefl _ b0
          · rw [List.mem_singleton, Heap.size_push] at z
            rw [z] at b0
            exact Nat.lt_irrefl _ (Nat.lt_trans (Nat.lt_succ_self _) b0)
      · cases r₂ with
        | error e => exact hr₂
        | ok fl₂ =>
          cases fl₂ with
          | ret r =>
            obtain ⟨rfl, h', tk, rfl, hS', hk'⟩ := hr₂
            repeat (any_goals (first | assumption | wp_step))
            exact h _ _ hS' hk'
          | _ => exact hr₂.elim
    | _ => exact hr.elim
end
end Sx
set_option Elab.async false
set_option linter.all false
set_option maxRecDepth 100000
set_option maxHeartbeats 4000000
namespace Sx
open PySem PySem.Spec PyProof.Rows L2
section
variable {P : Program} {w : World} {A : Around} {E : Value → Shared → Prop} {s : Shared}
theorem perm_of {κ : Type} [DecidableEq κ] : ∀ (l ks : List κ), l.Nodup → (∀ k ∈ l, k ∈ ks) → ks.length ≤ l.length → ks.Perm l
  | [], ks, _, _, h => by
    have e : ks = [] := List.eq_nil_of_length_eq_zero (Nat.le_zero.mp h)
    rw [e]
  | x :: l, ks, nd, hm, h => by
    obtain ⟨nx, nl⟩ := List.nodup_cons.mp nd
    have hx := hm x List.mem_cons_self
    refine (List.perm_cons_erase hx).trans (List.Perm.cons x (perm_of l (ks.erase x) nl (fun k hk => ?_) ?_))
    · exact (List.mem_erase_of_ne (fun e : k = x => nx (by rw [← e]; exact hk))).mpr (hm k (List.mem_cons_of_mem _ hk))
    · rw [List.length_erase_of_mem hx]
      rw [List.length_cons] at h
      omega
theorem strs_list : ∀ (l : List Value), (∀ v ∈ l, ∃ (k : Str) (u : Tok), v = Value.str k u) → ∃ ks : List Str, StrsAre l ks
  | [], _ => ⟨[], .nil⟩
  | v :: l, h => by
    obtain ⟨k, u, rfl⟩ := h v List.mem_cons_self
    obtain ⟨ks, r⟩ := strs_list l fun z hz => h z (List.mem_cons_of_mem _ hz)
    exact ⟨k :: ks, .cons k u r⟩
theorem strs_mem : ∀ {l : List Value} {ks : List Str}, StrsAre l ks → ∀ k, k ∈ ks ↔ ∃ u, Value.str k u ∈ l
  | _, _, .nil, k => by simp
  | _, _, .cons n t r, k => by
    rw [List.mem_cons, strs_mem r k]
    constructor
    · rintro (rfl | ⟨u, h⟩)
      · exact ⟨t, List.mem_cons_self⟩
      · exact ⟨u, List.mem_cons_of_mem _ h⟩
    · rintro ⟨u, h⟩
      rcases List.mem_cons.mp h with e | e
      · injection e with e1 _
        exact Or.inl e1
      · exact Or.inr ⟨u, e⟩
theorem txt_val {k : Str} {v : Value} (h : (kT P w).is k v = true) : ∃ u, v = .str k u := Value.isStrOf_shape (x := k) (v := v) h
theorem len_set {a : Addr} {l : List Str} {Q : Value → Shared → Prop} (R : Lst (kT P w) s.heap a l) (hl : l.length < 2 ^ 60) (h : Q (.int l.length (s.toks + 1)) { s with toks := s.toks + 1 + 1 }) : wpAny (model P w) A (call (.builtin "len") [.ref a]) Q E s := by
  obtain ⟨o, es, ep, t, ho, hex, hd, p⟩ := R
  have e : es.size = l.length := p.sz
  refine call_len_set ho hex hd p.ft (by rw [e]; omega) ?_
  rw [e]
  exact h
theorem sorted_set {a : Addr} {l : List Str} (nd : l.Nodup) {Q : Value → Shared → Prop} (R : Lst (kT P w) s.heap a l) (hh : A.handled = none)
    (hQ : ∀ s' p (out : Array Value) (c : Nat) (ns : List Str), (∀ b o, s.heap.get? b = some o → s'.heap.get? b = some o) → s'.gens = s.gens → s'.os = s.os → s.heap.objs.size ≤ p →
      s'.heap.get? p = some (seqObj "list" out c) → StrsAre out.toList ns → ns.Perm l → sortedS ns = true → Q (.ref p) s') :
    wpAny (model P w) A (call (.builtin "sorted") [.ref a]) Q E s := by
  obtain ⟨o, es, ep, t, ho, hex, hd, p⟩ := R
  refine Calls.call_function_entry kind_sorted plain_sorted entry_sorted (args_sorted1 _) ?_
  unfold Builtin.«sorted»
  refine wpAny_bind (m := checkCount "sorted" 1 1 _) (wpAny_pure ?_)
  refine wpAny_bind (L2.collect_set (A := A.in1) hh ⟨o, ho, hex.1, hd⟩ p.ft p.lt p.ri p.ld fun s1 vs k1 hz g1 o1 pm => ?_)
  have hvl : vs.length = l.length := by rw [pm.length_eq, List.length_map, Array.length_toList]; exact p.sz
  obtain ⟨ks, hS⟩ := strs_list vs fun v hv => by
    obtain ⟨e, he, q⟩ := List.mem_map.mp (pm.mem_iff.mp hv)
    obtain ⟨⟨k, hk, _⟩, _⟩ := p.el e he
    obtain ⟨u, eu⟩ := txt_val hk
    exact ⟨k, u, by rw [← q]; exact eu⟩
  have hkl : ks.length = l.length := by rw [← StrsAre.length hS, hvl]
  have mem : ∀ k, k ∈ ks ↔ k ∈ l := fun k => by
    rw [strs_mem hS k, p.mm k]
    constructor
    · rintro ⟨u, hu⟩
      obtain ⟨e, he, q⟩ := List.mem_map.mp (pm.mem_iff.mp hu)
      exact ⟨e, he, by rw [show e.2 = Value.str k u from q]; exact is_txt k u⟩
    · rintro ⟨e, he, q⟩
      obtain ⟨u, eu⟩ := txt_val q
      exact ⟨u, pm.mem_iff.mpr (List.mem_map.mpr ⟨e, he, eu⟩)⟩
  have hkp : ks.Perm l := perm_of l ks nd (fun k hk => (mem k).mpr hk) (by omega)
  have hL : vs.length ≤ sizeLine := by rw [hvl, ← p.sz]; exact fits_of_scanBound p.lt
  refine wpAny_bind (wpAny_newList ?_ hL)
  have hoL : (s1.heap.push (seqObj "list" vs.toArray 0)).get? s1.heap.objs.size = some (seqObj "list" vs.toArray 0) := Heap.get?_push_size _ rfl
  refine wpAny_bind (wpAny_holding (wpAny_call_entry slot_list_sort ⟨_, hoL, rfl⟩ entry_list_sort (list_sort_treeKAny strKind_oneLt hoL hS.keysOf (fun v₁ v₂ rest e => keyKind_strs (by rw [← e]; exact hS)) hL fun st' hp hs => ?_) (args_list_sort _)))
  obtain ⟨ns', a1, a2, a3⟩ := sorted_out_str hS hp hs
  obtain ⟨c, hc⟩ := sortedHeap_at (vs := vs) (out := (arrOf st').map (·.2)) hoL
  refine ⟨_, rfl, wpAny_pure ⟨_, rfl, hQ _ s1.heap.objs.size _ c ns' (fun b u e => ?_) g1 o1 hz hc a1 (a2.trans hkp) a3⟩⟩
  have q := k1 b u e
  have lt := Heap.lt_size q
  show (sortedHeap (s1.heap.push (seqObj "list" vs.toArray 0)) s1.heap.objs.size vs _).get? b = some u
  rw [sortedHeap_old (Nat.ne_of_lt lt) (by rw [size_push']; exact Nat.lt_succ_of_lt lt)]
  exact Heap.get?_push_of_some _ q
end
/-! ### over the layer -/
/-- a set of texts at an address -/
def SetT (P : Program) (w : World) (a : Addr) (l : List Str) : HO := .ext fun h => Lst (kT P w) h a l
section
variable {X : Cx}
theorem setT_new {w : World} {P : Program} {H : Hp} {h : Heap} {a : Addr} {l : List Str} (R : Lst (kT P w) h a l) : ObjOk P w H h a (SetT P w a l) := by
  have ⟨o, _, _, _, ho, _⟩ := R
  exact ⟨R, ⟨o, ho⟩, fun h1 h2 p k => Has.on p k⟩
theorem setT_get {pins : List (Addr × Obj)} {σ : L2.St} {H : Hp} {s : Shared} {a : Addr} {l : List Str} (I : Inv X pins σ H s) (ha : H a = some (SetT X.prog X.w a l)) : Lst (kT X.prog X.w) s.heap a l := (I.hok a _ ha).1
/-- set(x), x a text of ASCII signs -/
def rSetS (P : Program) (w : World) : List V → Hp → VK → Prop := fun vs H Q => ∃ x : Str, vs = [.str x] ∧ x.cps.all (· < 128) = true ∧ x.cps.size ≤ 4000 ∧ ∀ p, H p = none → Q (.ref p) (upd H p (SetT P w p (uniq [] (sgs x))))
theorem cr_setS (hc : X.calm = true) : CallR X (.type "set") (rSetS X.prog X.w) := by
  intro pins s σ H vs us Q I r h
  obtain ⟨x, rfl, ha, hb, q⟩ := h
  cases r with
  | cons r rr =>
    cases rr
    obtain ⟨t, rfl⟩ := r
    refine set_of_text (I.ok.hd hc) ha (by unfold scanBound; omega) fun h' tk R k => ?_
    have hn : H s.heap.objs.size = none := I.hok.fresh (Nat.le_refl _)
    exact ⟨.ref s.heap.objs.size, _, I.laid (t' := tk) k (Nat.le_refl _) (setT_new R), rfl, q _ hn⟩
/-- set(xs), xs a list of texts -/
def rSetL (K : PySem.W.Frag) (P : Program) (w : World) : List V → Hp → VK → Prop := fun vs H Q => ∃ (a : Addr) (xs : List Str), vs = [.ref a] ∧ SqL K H a (xs.map V.str) ∧ xs.length ≤ 4000 ∧ ∀ p, H p = none → Q (.ref p) (upd H p (SetT P w p (uniq [] xs)))
theorem cr_setL (hc : X.calm = true) : CallR X (.type "set") (rSetL X.K X.prog X.w) := by
  intro pins s σ H vs us Q I r h
  obtain ⟨a, xs, rfl, hs, hb, q⟩ := h
  obtain ⟨its, rv, hl, _⟩ := I.list hs
  rw [Vals.ref1 r]
  refine set_of_list (I.ok.hd hc) hl.isList rv.strs (by unfold scanBound; omega) fun h' tk R k => ?_
  have hn : H s.heap.objs.size = none := I.hok.fresh (Nat.le_refl _)
  exact ⟨.ref s.heap.objs.size, _, I.laid (t' := tk) k (Nat.le_refl _) (setT_new R), rfl, q _ hn⟩
/-- sorted(found), found a set of texts -/
def rSortT (P : Program) (w : World) : List V → Hp → VK → Prop := fun vs H Q => ∃ (a : Addr) (l : List Str), vs = [V.ref a] ∧ H a = some (SetT P w a l) ∧ l.Nodup ∧ l.length ≤ 100000 ∧
  ∀ (ns : List Str) (p : Addr), ns.Perm l → sortedS ns = true → H p = none → Q (.ref p) (upd H p (.lst (ns.map V.str)))
theorem cr_sortT (hc : X.calm = true) : CallR X (.builtin "sorted") (rSortT X.prog X.w) := by
  intro pins s σ H vs us Q I r h
  obtain ⟨a, l, rfl, ha, nd, hl, q⟩ := h
  have R := setT_get I ha
  rw [Vals.ref1 r]
  refine sorted_set nd R (I.ok.hd hc) fun s' p out c ns k g o hp hg hi hpm hs => ?_
  have hlen : (ns.map V.str).length ≤ sizeLine := by rw [List.length_map, hpm.length_eq]; exact Nat.le_trans hl (by decide)
  have hn : H p = none := I.hok.fresh hp
  have J : Inv X pins σ (upd H p (.lst (ns.map V.str))) { s with heap := s'.heap, gens := s'.gens, drawn := s'.drawn, toks := s'.toks } :=
    I.call (ch := []) (Un.laid k hp hn) (I.hok.laid k hp ⟨hlen, out.toList, c, vals_of_strs hi, hg⟩) (by rw [g]; exact I.bare) (fun _ z => nomatch z)
  have e : s' = { s with heap := s'.heap, gens := s'.gens, drawn := s'.drawn, toks := s'.toks } := by
    cases s'
    cases s
    cases o
    rfl
  rw [e]
  exact ⟨.ref p, _, J, rfl, q ns p hpm hs hn⟩
/-- len(found), found a set of texts -/
def rLenT (P : Program) (w : World) : List V → Hp → VK → Prop := fun vs H Q => ∃ (a : Addr) (l : List Str), vs = [V.ref a] ∧ H a = some (SetT P w a l) ∧ l.length ≤ 100000 ∧ Q (.int l.length) H
theorem cr_lenT : CallR X (.builtin "len") (rLenT X.prog X.w) := by
  intro pins s σ H vs us Q I r h
  obtain ⟨a, l, rfl, ha, hl, q⟩ := h
  rw [Vals.ref1 r]
  exact len_set (setT_get I ha) (by omega) ⟨.int l.length, H, I.tok _, ⟨_, rfl⟩, q⟩
end
end Sx
set_option Elab.async false
set_option linter.all false
set_option maxRecDepth 100000
set_option maxHeartbeats 4000000
/-! Rx: some more rules over the layer -/
namespace Rx
open PySem PySem.Spec PyProof.Rows L2
section
variable {X : Cx}
/-- i ** j of great whole numbers -/
def CPowB (i j : Int) : Prop := 0 ≤ j ∧ (Builtin.Int.intBits i : Int) * j ≤ 2 ^ 27
theorem op_powB : OpR X (binaryOp .Pow) (rI CPowB fun i j => .int (i ^ j.toNat)) := by
  intro pins s σ H x y v u Q I rx ry h
  obtain ⟨i, j, rfl, rfl, hc, q⟩ := h
  obtain ⟨t, rfl⟩ := rx
  obtain ⟨t', rfl⟩ := ry
  exact pow_int hc.1 hc.2 ⟨.int (i ^ j.toNat), H, I.tok _, ⟨_, rfl⟩, q⟩
/-- list(x), x a text -/
def rListS : List V → Hp → VK → Prop := fun vs H Q => ∃ x : Str, vs = [.str x] ∧ x.cps.size ≤ 100000 ∧ ∀ p, H p = none → Q (.ref p) (upd H p (.lst ((Sx.sgs x).map V.str)))
theorem paired_get {α β : Type} {F : α → β → Prop} : ∀ {l : List α} {r : List β}, l.length = r.length → (∀ (i : Nat) a b, l[i]? = some a → r[i]? = some b → F a b) → Paired F l r
  | [], [], _, _ => .nil
  | [], _ :: _, h, _ => by simp at h
  | _ :: _, [], h, _ => by simp at h
  | a :: l, b :: r, h, g => .cons (g 0 a b rfl rfl) (paired_get (by simpa using h) fun i x y hx hy => g (i + 1) x y (by simpa using hx) (by simpa using hy))
theorem items_signs {x : Str} {acc : Array Value} (h : ItemsOf (SignAt x) acc x.cps.size) : Vals ((Sx.sgs x).map V.str) acc.toList := by
  refine paired_get ?_ fun i a b ha hb => ?_
  · rw [List.length_map, Sx.sgs, List.length_map, Array.length_toList, Array.length_toList, h.1]
  · rw [Array.getElem?_toList] at hb
    obtain ⟨c, u, hc, rfl⟩ := h.2 i b hb
    rw [List.getElem?_map, Sx.sgs, List.getElem?_map, Array.getElem?_toList, hc] at ha
    obtain rfl : V.str ⟨#[c]⟩ = a := Option.some.inj ha
    exact ⟨u, rfl⟩
theorem cr_listS (hc : X.calm = true) : CallR X (.type "list") rListS := by
  intro pins s σ H vs us Q I r h
  obtain ⟨x, rfl, hb, q⟩ := h
  cases r with
  | cons r rr =>
    cases rr
    obtain ⟨t, rfl⟩ := r
    have hz : x.cps.size ≤ sizeLine := Nat.le_trans hb (by decide)
    refine call_list_str (I.ok.hd hc) x t (fun h' tk acc c k hS hi => ?_) hz
    have hn : H s.heap.objs.size = none := I.hok.fresh (Nat.le_refl _)
    have hl : ((Sx.sgs x).map V.str).length = x.cps.size := by
      rw [List.length_map, Sx.sgs, List.length_map, Array.length_toList]
    have ok : ObjOk X.prog X.w (upd H s.heap.objs.size (.lst ((Sx.sgs x).map V.str))) h' s.heap.objs.size (.lst ((Sx.sgs x).map V.str)) := ⟨by rw [hl]; exact hz, acc.toList, c, items_signs hi, hS⟩
    exact ⟨.ref s.heap.objs.size, _, I.laid (t' := tk) k (Nat.le_refl _) ok, rfl, q _ hn⟩
/-- x[::k] of a text, k the number -1 -/
def turned (x : Str) : Str := ⟨x.cps.toList.reverse.toArray⟩
def tRevS (te : TE) (th : TO) : TE := fun σ H Q => te σ H fun x H1 => th σ H1 fun o H2 => ∃ z, x = .str z ∧ o = some (-1) ∧ z.length ≤ 100000 ∧ Q (.str (turned z)) H2
theorem pe_revS {e k : Expr} {te : TE} {th : TO} {p3 pos : Pos} (he : PE X e te) (hk : PO X (some k) th) : PE X (.Subscript e (.Slice none none (some k) p3) pos) (tRevS te th) := by
  refine ⟨fun pins s σ H Q I h => ?_⟩
  refine Subscript_ (thn (he.run pins s σ H _ I h) fun v s1 ⟨x, H1, I1, r1, q1⟩ => ?_)
  refine wpAny_Slice (thn (po_none.run pins s1 σ H1 (fun o H2 => o = none ∧ H2 = H1) I1 ⟨rfl, rfl⟩) fun vl s2 ⟨l, H2, I2, pl, el, e2⟩ => ?_)
  subst el e2
  refine thn (po_none.run pins s2 σ H2 (fun o H3 => o = none ∧ H3 = H2) I2 ⟨rfl, rfl⟩) fun vu s3 ⟨u, H3, I3, pu, eu, e3⟩ => ?_
  subst eu e3
  refine thn (hk.run pins s3 σ H3 _ I3 q1) fun vs s4 ⟨o, H4, I4, ps, q2⟩ => ?_
  obtain ⟨z, rfl, rfl, hz, q⟩ := q2
  obtain ⟨t, rfl⟩ := r1
  have I5 : Inv X pins σ H4 { s4 with heap := s4.heap.push { cls := .type "slice", data := .fields #[vl, vu, vs] } } := I4.kept (t' := s4.toks) fun b ob q => Heap.get?_push_of_some _ q
  obtain ⟨l1, rfl, el⟩ := IsPart.raw pl
  obtain ⟨u1, rfl, eu⟩ := IsPart.raw pu
  obtain ⟨k1, rfl, ek⟩ := IsPart.raw ps
  have hl1 : l1 = none := by cases l1 <;> simp_all
  have hu1 : u1 = none := by cases u1 <;> simp_all
  subst hl1 hu1
  show wpAny (model X.prog X.w) X.A (subscriptTail e (.Slice none none (some k) p3) (.str z t) (.ref s4.heap.objs.size)) (EP X pins σ Q) X.xe { s4 with heap := s4.heap.push { cls := .type "slice", data := .fields #[partValue none, partValue none, partValue k1] } }
  refine tail_any (ops := [.ref s4.heap.objs.size, .str z t]) (typeIs_str _ _ _) PySem.F.slot_str_getitem.lookup ?_ (by with_unfolding_all rfl)
  refine wpAny_getItem_str_slice (l := none) (u := none) (st := k1) ⟨_, Heap.get?_push_size _ rfl, rfl, rfl⟩ (by rw [ek]; rfl) ?_
  have hp : slicePicked z none none k1 = (List.range z.length).reverse := by
    unfold slicePicked
    rw [ek]
    show sliceRange ((z.length : Int) - 1) (-1) (-1) = _
    rw [PySem.W.krv_sliceRange, PySem.W.krv_range]
  unfold sliceMade
  rw [hp, ek]
  have e0 : (((some (-1) : Option Int).getD 1) == 1 && (List.range z.length).reverse.length == z.length) = false := by
    show (((-1 : Int) == 1) && _) = false
    rfl
  rw [if_neg (by rw [e0]; decide)]
  have e1 : ((List.range z.length).reverse.filterMap (z.cps[·]?)).toArray = (turned z).cps := by
    rw [List.filterMap_reverse, show z.length = z.cps.size from rfl, PySem.W.krv_all]
    rfl
  rw [e1]
  refine ⟨?_, .str _, H4, I5.tok _, ⟨_, rfl⟩, q⟩
  show (turned z).cps.size ≤ sizeLine
  have : (turned z).cps.size = z.cps.size := by simp [turned]
  rw [this]
  exact Nat.le_trans hz (by decide)
end
end Rx
set_option Elab.async false
set_option linter.all false
set_option maxRecDepth 100000
set_option maxHeartbeats 4000000
/-! Rx2: calls by keywords alone; reversed(text); enumerate and zip over texts and tuples -/
namespace Rx
open PySem PySem.Spec PyProof.Rows L2

/-! ### f(k = v, ..) -/
section
variable {X : Cx} {CX : CXT} {k : Nat} {f : Addr} {fd : FuncData} {ps ks : List PySem.Str} {g : List Value → List Value → List Value} {gV : List V → List V → List V} {sp : Sp} {E : XK} {x : PySem.Str} {np pos : Pos} {kws : List Keyword} {tk : TA}
def tCallK0 (sp : Sp) (gV : List V → List V → List V) (E : XK) (tk : TA) : TE := fun σ H Q => tk σ H fun zs H2 => sp (gV [] zs) H2 Q E
theorem pe_callK0 (F : FnOk X.prog X.w X.K X.mg X.base CX k f fd ps sp) (hr : Room k X.A) (hg : Gl X x) (hm : X.mg x = some (.ref f)) (hk : PySem.W.keepIn X.K (.ref f) = true) (hb : KBinds X.K fd ps ks g gV) (hx : Passes CX X E)
    (hkw : PK X kws tk) (hall : (backToKw pos (keywordEach kws X.env)).all (·.1.isSome) = true := by rfl) (hks : (backToKw pos (keywordEach kws X.env)).filterMap (·.1) = ks := by rfl)
    (hdb : (x == ("__debug__" : PySem.Str)) = false := by decide)
    (hpl : ((backTo pos (starEach [] X.env)).any (·.1) || (backToKw pos (keywordEach kws X.env)).any (·.1.isNone)) = false := by rfl) :
    PE X (.Call (.Name x np) [] kws pos) (tCallK0 sp gV E tk) := by
  refine ⟨fun pins s σ H Q I h => ?_⟩
  refine wpAny_Call_Name_kw (ld_glob I hg hm ?_ hdb)
  refine PySem.W.callWith_KW0 (h₀ := X.base) I.ok.mod.kin hk hall (thn (hkw.run pos pins s σ H _ I h) fun ws s2 ⟨zs, H2, I2, rz, q2⟩ => ⟨I2.kIn, ?_⟩) hpl
  rw [hks]
  exact run_fnk (us := []) (vs := []) F hr hb hx I2 .nil rz q2
end

/-! ### reversed(text) -/
theorem norev_str : typeLookup (.type "str") "__reversed__" = pure none := by rw [typeLookup_type, builtinLookup_eq_fast]; kernel_rfl
theorem get_str : typeLookup (.type "str") "__getitem__" = pure (some (.builtin "str.__getitem__")) := by rw [typeLookup_type, builtinLookup_eq_fast]; kernel_rfl
def rsObj (x : PySem.Str) (t : Tok) (i : Int) : Obj := { cls := .type "reversed", data := .fields #[.str x t, rawInt i] }
/-- reversed(x), the next place i -/
def IsRs (h : Heap) (a : Addr) (x : PySem.Str) (t : Tok) (i : Int) : Prop := ∃ o, h.get? a = some o ∧ o.cls = .type "reversed" ∧ o.data = .fields #[.str x t, rawInt i]
theorem IsRs.at {h h' : Heap} {a : Addr} {x : PySem.Str} {t : Tok} {i : Int} (z : IsRs h a x t i) (e : ∀ o, h.get? a = some o → h'.get? a = some o) : IsRs h' a x t i := let ⟨o, ho, r⟩ := z; ⟨o, e _ ho, r⟩
section
variable {prog : Program} {w : World} {A : Around} {E : Value → Shared → Prop} {s : Shared}
theorem IsRs.typeIs {a : Addr} {x : PySem.Str} {t : Tok} {i : Int} (z : IsRs s.heap a x t i) : s.TypeIs (.ref a) "reversed" := let ⟨o, ho, hc, _⟩ := z; ⟨o, ho, hc⟩
theorem code_reversed_str {x : PySem.Str} {t : Tok} {Q₁ : Value → Shared → Prop} (hfit : ¬ (x.length : Int) ≥ 2 ^ 63)
    (h : Q₁ (.ref s.heap.objs.size) { s with heap := s.heap.push (rsObj x t ((x.length : Int) - 1)), toks := s.toks + 1 + 1 }) :
    codeAny (model prog w) A (.call (.builtin "reversed.__new__") ⟨[.type "reversed", .str x t], []⟩) (wants Q₁ E) s := by
  have hT : s.TypeIs (.str x t) "str" := rfl
  refine codeAny_of_tree ?_
  show wpAny _ A.in1 (do checkBuiltinCall "reversed.__new__" ⟨[.type "reversed", .str x t], []⟩; again (.builtin "reversed.__new__" ⟨[.type "reversed", .str x t], []⟩)) _ _ s
  refine wpAny_bind (wpAny_of_eq (F.newCall_reversed_1 _) (wpAny_pure ⟨plainId_quiet F.plain_reversed_new _, codeAny_builtin F.entry_reversed_new ?_⟩))
  rw [Around.under_plainId F.plain_reversed_new _]
  unfold Builtin.«reversed.__new__»
  refine wpAny_bind (wpAny_of_eq (newClass_reversed _) ?_)
  try dsimp only
  refine wpAny_bind (wpAny_of_eq (a := ()) (by first | rfl | kernel_rfl) ?_)
  try dsimp only
  refine wpAny_bind (wpAny_of_eq (a := ()) (by first | rfl | kernel_rfl) ?_)
  try dsimp only
  refine wpAny_bind (wpAny_specialOf hT norev_str ?_)
  try dsimp only
  refine wpAny_bind ?_
  wp_delta
  refine wpAny_bind (wpAny_isInstance (T := "str") (U := "dict") (b := false) hT PySem.F.sub_str_dict ?_)
  try dsimp only
  try rw [if_neg Bool.false_ne_true]
  try dsimp only
  refine wpAny_bind (wpAny_specialOf hT get_str ?_)
  try dsimp only
  try rw [if_pos (by decide +kernel)]
  refine wpAny_pure ?_
  try dsimp only
  try rw [if_neg (by decide)]
  try dsimp only
  refine wpAny_bind (len_str hfit ?_)
  refine wpAny_bind (wpAny_of_eq (a := some ((x.length : Nat) : Int)) rfl ?_)
  try dsimp only
  refine wpAny_bind ?_
  show wpAny _ _ (newObj (.type "reversed") (.fields #[.str x t, rawInt ((x.length : Int) - 1)])) _ _ _
  refine wpAny_newObj_type ?_
  exact wpAny_pure h
theorem call_reversed_str {x : PySem.Str} {t : Tok} {Q : Value → Shared → Prop} (hfit : ¬ (x.length : Int) ≥ 2 ^ 63)
    (h : Q (.ref s.heap.objs.size) { s with heap := s.heap.push (rsObj x t ((x.length : Int) - 1)), toks := s.toks + 1 + 1 }) : wpAny (model prog w) A (call (.type "reversed") [.str x t]) Q E s := by
  refine callType_codes (Q₁ := fun obj s₁ => s₁.TypeIs obj "reversed" ∧ Q obj s₁) RT.called_rt (F.typeCall_reversed_1 _) F.entry_object_init
    (code_reversed_str (A := A.in1) hfit ⟨⟨_, Heap.get?_push_size _ rfl, rfl⟩, h⟩) fun obj s₁ h₁ => ?_
  exact ⟨h₁.1, F.args_object_init_2 obj _, object_init_meets RT.called_rt.init.lookup RT.called_rt.made (by decide) prog w A.in1 _ s₁ ⟨h₁.1, rfl, h₁.2⟩⟩
theorem next_rs_item {it : Addr} {x : PySem.Str} {t : Tok} {i c : Nat} {Q : Option Value → Shared → Prop} (hit : IsRs s.heap it x t (i : Int)) (hx : x.cps[i]? = some c) (hsz : x.cps.size ≤ sizeLine)
    (hQ : ∀ h', IsRs h' it x t ((i : Int) - 1) → Heap.SameBut it s.heap h' → Q (some (.str ⟨#[c]⟩ (s.toks + 1))) { s with heap := h', toks := s.toks + 1 + 1 }) : wpAny (model prog w) A (pyNext (.ref it)) Q E s := by
  obtain ⟨o, ho, hc, hd⟩ := id hit
  have hi : i < x.cps.size := (Array.getElem?_eq_some_iff.mp hx).1
  have hT : s.TypeIs (.str x t) "str" := rfl
  rw [sizeLine_eq] at hsz
  unfold pyNext
  refine wpAny_bind (wpAny_attempt (wpAny_callSpecial?_slot (name := Str.ofString "__next__") hit.typeIs RT.slot_rt_next
    (wpAny_call_entry RT.slot_rt_next hit.typeIs RT.entry_rt_next ?_ (RT.args_rt_next _))))
  unfold Builtin.«reversed.__next__»
  refine wpAny_bind (wpAny_of_eq (a := (Value.ref it, [])) rfl ?_)
  try dsimp only
  refine wpAny_bind (wpAny_field ho hd (x := .str x t) rfl ?_)
  try dsimp only
  refine wpAny_bind (wpAny_field ho hd (x := rawInt (i : Int)) rfl ?_)
  show wpAny _ _ (if (i : Int) < 0 then _ else _) _ _ s
  rw [if_neg (by omega)]
  try dsimp only
  refine wpAny_bind (wpAny_specialOf hT get_str ?_)
  try dsimp only
  try rw [if_neg (by decide)]
  try dsimp only
  refine wpAny_bind (wpAny_mkInt ?_)
  refine wpAny_bind (wpAny_attempt ?_)
  have fin : seqIndex? (i : Int) x.length = some i := seqIndex_of (by omega) (by show ((i : Nat) : Int) < (x.cps.size : Nat); omega)
  refine PyProof.Rows.getItem_str (s := { s with toks := s.toks + 1 }) (c := c) (by
    have e1 : decide ((i : Int) < -(2 ^ 63 : Int)) = false := decide_eq_false (by omega)
    have e2 : decide ((i : Int) ≥ 2 ^ 63) = false := decide_eq_false (by omega)
    rw [e1, e2, Bool.or_false]) (by rw [fin]; exact hx) ?_
  try dsimp only
  refine wpAny_bind (wpAny_field (s := { s with toks := s.toks + 1 + 1 }) ho hd (x := rawInt (i : Int)) rfl ?_)
  try dsimp only
  refine wpAny_bind (wpAny_setField (s := { s with toks := s.toks + 1 + 1 }) ho hd (by simp) ?_)
  first
  | refine wpAny_pure ⟨_, rfl, wpAny_pure (hQ _ ?_ (Heap.SameBut.update ..))⟩
  | refine wpAny_bind (wpAny_pure (wpAny_pure ⟨_, rfl, wpAny_pure (hQ _ ?_ (Heap.SameBut.update ..))⟩))
  exact ⟨_, Heap.get?_update_self _ ho (Obj.isFreed_of_fields (Obj.data_mapFields hd _)), (Obj.cls_mapFields ..).trans hc, by
    rw [Obj.data_mapFields hd]; simp⟩
theorem next_rs_end {it : Addr} {x : PySem.Str} {t : Tok} {Q : Option Value → Shared → Prop} (hh : A.handled = none) (hit : IsRs s.heap it x t (-1))
    (hQ : ∀ h', Heap.ExtBut it s.heap h' → Q none { s with heap := h' }) : wpAny (model prog w) A (pyNext (.ref it)) Q E s := by
  obtain ⟨o, ho, hc, hd⟩ := id hit
  unfold pyNext
  refine wpAny_bind (wpAny_attempt (wpAny_callSpecial?_slot (name := Str.ofString "__next__") hit.typeIs RT.slot_rt_next
    (wpAny_call_entry RT.slot_rt_next hit.typeIs RT.entry_rt_next ?_ (RT.args_rt_next _))))
  unfold Builtin.«reversed.__next__»
  refine wpAny_bind (wpAny_of_eq (a := (Value.ref it, [])) rfl ?_)
  try dsimp only
  refine wpAny_bind (wpAny_field ho hd (x := .str x t) rfl ?_)
  try dsimp only
  refine wpAny_bind (wpAny_field ho hd (x := rawInt (-1)) rfl ?_)
  show wpAny _ _ (if (-1 : Int) < 0 then _ else _) _ _ s
  rw [if_pos (by decide)]
  try dsimp only
  refine wpAny_bind (wpAny_rule ?_)
  refine wpAny_bind ?_
  wp_delta
  refine wpAny_bind (wpAny_setField ho hd (by simp) ?_)
  have ho2 := Heap.get?_update_self (Obj.mapFields (·.setIfInBounds 1 (rawInt (-1)))) ho (Obj.isFreed_of_fields (Obj.data_mapFields hd _))
  refine wpAny_setField (s := { s with heap := s.heap.update it (Obj.mapFields (·.setIfInBounds 1 (rawInt (-1)))) }) ho2 (Obj.data_mapFields hd _) (by simp) ?_
  try dsimp only
  first
  | show wpAny _ _ (newExc (.type "StopIteration") [] >>= _) _ _ _
  | (refine wpAny_bind ?_; show wpAny _ _ (newExc (.type "StopIteration") [] >>= _) _ _ _)
  | (refine wpAny_bind ?_; wp_delta; show wpAny _ _ (newExc (.type "StopIteration") [] >>= _) _ _ _)
  refine wpAny_bind ?_
  simp only [newExc, newTuple]
  refine wpAny_bind (wpAny_newObj_type ?_ (by size_fits))
  refine wpAny_bind (m := firstArgMember _ _) (wpAny_of_eq (a := Value.none) (by first | rfl | (simp only [firstArgMember]; rfl)) ?_)
  refine wpAny_newObj_type ?_ (by size_fits)
  simp only [raiseNew]
  refine wpAny_bind (wpAny_handled ?_)
  first | rw [show A.in1.handled = none from hh] | rw [hh]
  refine wpAny_bind (wpAny_pure (wpAny_throw ?_))
  refine wpAny_bind (wpAny_isInstance (T := "StopIteration") (b := true) ⟨_, Heap.get?_push_size _ rfl, rfl⟩ isSubtype_stop ?_)
  refine wpAny_pure (hQ _ ?_)
  refine ((?_ : Heap.ExtBut it s.heap _).push _).push _
  exact fun b ob hb e => (Heap.get?_update_other _ _ (Ne.symm hb)).trans ((Heap.get?_update_other _ _ (Ne.symm hb)).trans e)
theorem iter_rs {it : Addr} {x : PySem.Str} {t : Tok} {i : Int} {Q : Value → Shared → Prop} (hit : IsRs s.heap it x t i) (h : Q (.ref it) s) : wpAny (model prog w) A (pyIter (.ref it)) Q E s := by
  refine wpAny_pyIter_slot hit.typeIs RT.slot_rt_iter (wpAny_call_entry RT.slot_rt_iter hit.typeIs RT.entry_rt_iter ?_ (RT.args_rt_iter _))
  show wpAny _ _ (ret (.ref it)) _ _ s
  exact wpAny_pure ⟨_, rfl, "reversed", _, hit.typeIs, RT.slot_rt_next.lookup, h⟩
end
/-- a text's letters from its end -/
def ItRs (x : PySem.Str) : It := ⟨fun i _ => i < x.cps.size, fun i H v H' => H' = H ∧ ∃ c, x.cps[x.cps.size - 1 - i]? = some c ∧ v = .str ⟨#[c]⟩, fun i _ => x.cps.size ≤ i⟩
theorem turn_rs {P : Program} {w : World} {K : PySem.W.Frag} {tg : Expr} (it : Addr) (x : PySem.Str) (t : Tok) (hz : x.cps.size ≤ sizeLine) : Turn P w K tg (ItRs x) [it] it (fun i h => i ≤ x.cps.size ∧ IsRs h it x t ((x.cps.size : Int) - 1 - (i : Nat))) where
  mem := by simp
  obj := fun i h st b hb => by
    have e : b = it := by simpa using hb
    subst e
    obtain ⟨_, o, e, c, d⟩ := st
    exact ⟨o, e, fun v z => by rw [d] at z; cases z⟩
  keep := fun i h h' st k => ⟨st.1, st.2.at fun o e => k it (by simp) o e⟩
  item := by
    intro X hP hw hK hc i pins s σ H E I hf st hg
    subst hP hw hK
    have hin : i < x.cps.size := hg
    obtain ⟨f0, f1, f2, f3, f4, f5⟩ := hf it (by simp)
    obtain ⟨_, hit⟩ := st
    have e1 : (x.cps.size : Int) - 1 - ((i : Nat) : Int) = ((x.cps.size - 1 - i : Nat) : Int) := by omega
    rw [e1] at hit
    have hlt : x.cps.size - 1 - i < x.cps.size := by omega
    have hx : x.cps[x.cps.size - 1 - i]? = some (x.cps[x.cps.size - 1 - i]) := Array.getElem?_eq_getElem hlt
    refine next_rs_item hit hx hz fun h' st' sb => ?_
    have e2 : ((x.cps.size - 1 - i : Nat) : Int) - 1 = (x.cps.size : Int) - 1 - ((i + 1 : Nat) : Int) := by omega
    rw [e2] at st'
    have I1 : Inv X pins σ H { s with heap := h', toks := s.toks + 1 + 1 } := I.turned (t' := s.toks + 1 + 1) (fun b o hb e => (sb.2 b hb).trans e) f0 f1 f3 f4 f5
    obtain ⟨o, e, c, d⟩ := id st'
    exact ⟨_, rfl, go_of (s := { s with heap := h', toks := s.toks + 1 + 1 }) e c d (by decide) ⟨.str ⟨#[x.cps[x.cps.size - 1 - i]]⟩, H, I1, ⟨_, rfl⟩, ⟨rfl, _, hx, rfl⟩, ⟨hin, st'⟩, fun b hb => (hf b hb).1⟩⟩
  done := by
    intro X hP hw hK hc i pins s σ H E I hf st hg
    subst hP hw hK
    obtain ⟨f0, f1, f2, f3, f4, f5⟩ := hf it (by simp)
    obtain ⟨hin, hit⟩ := st
    have hge : x.cps.size ≤ i := hg
    have e1 : (x.cps.size : Int) - 1 - ((i : Nat) : Int) = -1 := by omega
    rw [e1] at hit
    exact next_rs_end (I.ok.hd hc) hit fun h' eb => ⟨rfl, I.turned (t' := s.toks) (fun b o hb e => eb b o hb e) f0 f1 f3 f4 f5⟩
  self := fun A i s Q E st h => iter_rs st.2 h
def iRevS (ta : TA) : TI := fun σ H R => ta σ H fun vs H1 => ∃ x : PySem.Str, vs = [.str x] ∧ x.cps.size ≤ sizeLine ∧ R (ItRs x) H1
theorem pi_revS {X : Cx} {tg e : Expr} {ta : TA} {p pos : Pos} (hg : Gl X "reversed") (hm : X.mg "reversed" = none) (ha : PA X [e] ta) (hs : starEach [e] X.env = [(false, eval e X.env)] := by rfl) : PI X tg (.Call (.Name "reversed" p) [e] [] pos) (iRevS ta) := by
  refine ⟨fun pins s σ H R I h => ?_⟩
  refine Call_ (ld_blt I hg hm PyProof.Rows.boot_reversed (PyProof.Rows.callWith_type1 (thn (ha.run pos pins s σ H _ I h) fun us s1 ⟨vs, H1, I1, r1, q1⟩ => ?_) hs rfl))
  obtain ⟨x, e, hz, q⟩ := q1
  subst e
  cases r1 with
  | cons r rr =>
    cases rr
    obtain ⟨t, rfl⟩ := r
    have hl : x.length = x.cps.size := rfl
    have hz' := hz
    rw [sizeLine_eq] at hz'
    have e1 : ((x.length : Nat) : Int) - 1 = (x.cps.size : Int) - 1 - ((0 : Nat) : Int) := by rw [hl]; omega
    have st0 : IsRs (s1.heap.push (rsObj x t ((x.length : Int) - 1))) s1.heap.objs.size x t ((x.length : Int) - 1) := ⟨_, Heap.get?_push_size _ rfl, rfl, rfl⟩
    refine call_reversed_str (by rw [hl]; omega) (iter_rs st0 ?_)
    refine pi_one (tk := s1.toks + 1 + 1) I1 _ (turn_rs _ x t hz) ⟨Nat.zero_le _, ?_⟩ q
    rw [← e1]
    exact st0
/-- the turns -/
theorem for_revS {x : PySem.Str} {g : TG} {tb : TS} {D : Ends} {σ : L2.St} {H : Hp} (Pv : Nat → L2.St → Hp → Prop) (h0 : Pv 0 σ H)
    (hs : ∀ i c σ H, i < x.cps.size → x.cps[x.cps.size - 1 - i]? = some c → Pv i σ H → g (.str ⟨#[c]⟩) σ H fun σ2 H2 => tb { D with nx := Pv (i + 1), ct := Pv (i + 1), bk := D.nx } σ2 H2) (hd : ∀ σ H, Pv x.cps.size σ H → D.nx σ H) :
    ∃ W : Nat → Nat → L2.St → Hp → Prop, (∃ m, W 0 m σ H) ∧ ∀ i m σ H, W i m σ H →
      ((ItRs x).stop i H ∧ D.nx σ H) ∨ ((ItRs x).go i H ∧ ∃ N : L2.St → Hp → Prop, (∀ σ' H', N σ' H' → ∃ m', m' < m ∧ W (i + 1) m' σ' H') ∧ ∀ v H', (ItRs x).yld i H v H' → g v σ H' fun σ2 H2 => tb { D with nx := N, ct := N, bk := D.nx } σ2 H2) := by
  refine ⟨fun i m σ H => m = x.cps.size - i ∧ i ≤ x.cps.size ∧ Pv i σ H, ⟨x.cps.size, rfl, Nat.zero_le _, h0⟩, ?_⟩
  rintro i m σ H ⟨rfl, hi, p⟩
  by_cases hlt : i < x.cps.size
  · refine .inr ⟨hlt, Pv (i + 1), fun σ' H' p' => ⟨x.cps.size - (i + 1), by omega, rfl, hlt, p'⟩, fun v H' y => ?_⟩
    obtain ⟨rfl, c, hc, rfl⟩ := y
    exact hs i c σ _ hlt hc p
  · have e : i = x.cps.size := by omega
    subst e
    exact .inl ⟨Nat.le_refl _, hd σ H p⟩
end Rx
set_option Elab.async false
set_option linter.all false
set_option maxRecDepth 100000
set_option maxHeartbeats 4000000
/-! Rx3: enumerate and zip over texts and tuples -/
namespace Rx
open PySem PySem.Spec PyProof.Rows L2

/-! ### enumerate of whatever begins -/
set_option maxHeartbeats 1000000 in
theorem meets_enumerate_new1 {v : Value} {o : Obj} {H : Heap → Prop} (B : Begins v o H) :
    Meets (Builtin.«enumerate.__new__» ⟨[.type "enumerate", v], []⟩) (fun _ R s => H s.heap ∧
      R (.ok (.ret (.ref (s.heap.push o).objs.size))) { s with heap := (s.heap.push o).push { cls := .type "enumerate", data := .fields #[.none, .bool false, .ref s.heap.objs.size, rawInt 0, .none, .none] } }) :=
  .of_wp fun prog w A R s h => by
    obtain ⟨hp, g, d, tk, os⟩ := s; obtain ⟨h1, h⟩ := h
    have hsub := sub_enumerate
    have q1 : ∀ {A' : Around} {E : Value → Shared → Prop} {Q : Value → Shared → Prop}, Q (.ref hp.objs.size) ⟨hp.push o, g, d, tk, os⟩ → wpAny (model prog w) A' (pyIter v) Q E ⟨hp, g, d, tk, os⟩ :=
      fun q => B.iter prog w _ _ ⟨hp, g, d, tk, os⟩ _ h1 q
    wp_walk using q1
    refine wpAny_stack_any fun st => wpAny_pure ?_
    split
    · rename_i c _ _ _ _ _
      cases (c == Value.type "enumerate")
      · wp_walk using q1
        exact ⟨_, rfl, h⟩
      · wp_walk using q1
        exact ⟨_, rfl, h⟩
    · wp_walk using q1
      exact ⟨_, rfl, h⟩
section
variable {prog : Program} {w : World} {A : Around} {E : Value → Shared → Prop} {s : Shared}
theorem enum_begins1 {v : Value} {o : Obj} {H : Heap → Prop} {Q : Value → Shared → Prop} (B : Begins v o H) (h1 : H s.heap)
    (h : ∀ h', IsEnum h' (s.heap.objs.size + 1) s.heap.objs.size 0 .none → h'.get? s.heap.objs.size = some o → h'.objs.size = s.heap.objs.size + 2 →
      (∀ b o, s.heap.get? b = some o → h'.get? b = some o) → Q (.ref (s.heap.objs.size + 1)) { s with heap := h' }) :
    wpAny (model prog w) A (call (.type "enumerate") [v]) Q E s := by
  refine callType_new F.called_enumerate (by decide) (F.typeCall_enumerate_1 _) (F.newCall_enumerate_1 _) (fun obj => F.args_object_init_2 obj _) F.entry_enumerate_new
    (meets_enumerate_new1 B) ⟨h1, ?_⟩
  have hz : (s.heap.push o).objs.size = s.heap.objs.size + 1 := Heap.size_push ..
  show _ ∧ _
  rw [hz]
  have he : IsEnum ((s.heap.push o).push { cls := .type "enumerate", data := .fields #[.none, .bool false, .ref s.heap.objs.size, rawInt 0, .none, .none] }) (s.heap.objs.size + 1) s.heap.objs.size 0 .none := by
    have := Heap.get?_push_size (s.heap.push o) (o := { cls := .type "enumerate", data := .fields #[.none, .bool false, .ref s.heap.objs.size, rawInt 0, .none, .none] }) rfl
    rw [hz] at this; exact this
  refine ⟨⟨_, he, rfl⟩, h _ he (Heap.get?_push_of_some _ (Heap.get?_push_size _ B.free)) (by rw [Heap.size_push, hz]) fun b o x => Heap.get?_push_of_some _ (Heap.get?_push_of_some _ x)⟩
end

/-! ### sources: what is walked by an iterator it, the cells rest beside it -/
/-- has H xs: what the source holds in H; tn: the iterator's state -/
structure Fed (P : Program) (w : World) (K : PySem.W.Frag) (it : Addr) (rest : List Addr) (has : Hp → List V → Prop) (tn : Nat → Heap → Prop) : Prop where
  obj : ∀ i h, tn i h → ∃ o, h.get? it = some o ∧ ∀ v, o.data ≠ .cell v
  keep : ∀ i h h', tn i h → (∀ o, h.get? it = some o → h'.get? it = some o) → tn i h'
  one : ∀ (X : Cx), X.prog = P → X.w = w → X.K = K → ∀ (pins : List (Addr × Obj)) (s : Shared) (σ : L2.St) (H : Hp) (xs ys : List V), Inv X pins σ H s → has H xs → has H ys → xs = ys
  draw : ∀ (X : Cx), X.prog = P → X.w = w → X.K = K → X.calm = true → ∀ (pins : List (Addr × Obj)) (s : Shared) (σ : L2.St) (H : Hp) (xs : List V), Inv X pins σ H s → has H xs →
    ∃ (Pt : Nat → Value → Prop) (St : Nat → Heap → Prop), Draws P w X.A.in1 it (it :: rest) xs.length Pt St ∧ (∀ i, tn i s.heap → St i s.heap) ∧ (∀ i h, St i h → tn i h) ∧ ∀ i v, Pt i v → ∃ x, xs[i]? = some x ∧ RelV x v
theorem fed_text {P : Program} {w : World} {K : PySem.W.Frag} (it : Addr) (x : PySem.Str) (t : Tok) : Fed P w K it [] (fun _ xs => xs = (Sx.sgs x).map V.str) (fun i h => h.IsStrIter it (strIterType x) x t i) where
  obj := fun i h st => by
    obtain ⟨o, e, c, d⟩ := st
    exact ⟨o, e, fun v z => by rw [d] at z; cases z⟩
  keep := fun i h h' st k => let ⟨o, ho, r⟩ := st; ⟨o, k o ho, r⟩
  one := fun X _ _ _ pins s σ H xs ys _ h1 h2 => by rw [h1, h2]
  draw := by
    intro X hP hw hK hc pins s σ H xs I hh
    subst hP hw hK
    have D := Draws.text (prog := X.prog) (w := X.w) (A := X.A.in1) (I.ok.hd hc) it x t
    have hl : x.cps.size = xs.length := by rw [hh, List.length_map, Sx.sgs, List.length_map, Array.length_toList]
    rw [hl] at D
    refine ⟨_, _, D, fun i z => z, fun i h z => z, fun i v hp => ?_⟩
    obtain ⟨c, u, hc, rfl⟩ := hp
    exact ⟨.str ⟨#[c]⟩, by rw [hh, List.getElem?_map, Sx.sgs, List.getElem?_map, Array.getElem?_toList, hc] <;> rfl, u, rfl⟩
theorem fed_tup {P : Program} {w : World} {K : PySem.W.Frag} (it a : Addr) (hne : a ≠ it) : Fed P w K it [a] (fun H xs => SqT K H a xs) (fun i h => h.IsTupleIter it a i) where
  obj := fun i h st => by
    obtain ⟨o, e, c, d⟩ := st
    exact ⟨o, e, fun v z => by rw [d] at z; cases z⟩
  keep := fun i h h' st k => st.at fun o e => k o e
  one := by
    intro X hP hw hK pins s σ H xs ys I h1 h2
    subst hP hw hK
    exact I.tuple_inj h1 h2
  draw := by
    intro X hP hw hK hc pins s σ H xs I hh
    subst hP hw hK
    obtain ⟨its, rv, p, hz⟩ := I.tuple hh
    have D := Draws.tuple (prog := X.prog) (w := X.w) (A := X.A.in1) (I.ok.hd hc) it a hne its.toArray
    have hl : its.toArray.size = xs.length := by rw [List.size_toArray, rv.length]
    rw [hl] at D
    refine ⟨_, _, D, fun i z => ⟨z, p⟩, fun i h z => z.1, fun i v hp => ?_⟩
    have hp' : its[i]? = some v := by simpa using hp
    have hi : i < xs.length := by rw [rv.length]; exact (List.getElem?_eq_some_iff.mp hp').1
    have hx : xs[i]? = some xs[i] := List.getElem?_eq_getElem hi
    obtain ⟨u, hu, ru⟩ := rv.get hx
    rw [hp'] at hu
    cases hu
    exact ⟨_, hx, ru⟩

/-! ### enumerate -/
def Itf (has : Hp → List V → Prop) : It :=
  ⟨fun i H => ∃ (xs : List V) (x : V), has H xs ∧ xs[i]? = some x, fun i H v H' => ∃ T x, v = .ref T ∧ H T = none ∧ H' = upd H T (.tup [.int (i : Nat), x]) ∧ ∀ xs, has H xs → xs[i]? = some x, fun i H => ∃ xs : List V, has H xs ∧ xs.length = i⟩
theorem turn_enumF {P : Program} {w : World} {K : PySem.W.Frag} {elts : List Expr} {kk : Nat} {tpos : Pos} {has : Hp → List V → Prop} {tn : Nat → Heap → Prop} {rest : List Addr} (e it : Addr) (Fd : Fed P w K it rest has tn) (hne : e ≠ it) (hr : e ∉ rest) :
    Turn P w K (.Tuple elts kk tpos) (Itf has) [e, it] e (fun i h => (∃ old, IsEnum h e it ((i : Nat) : Int) old) ∧ tn i h) where
  mem := by simp
  obj := fun i h st b hb => by
    obtain ⟨⟨old, he⟩, ht⟩ := st
    have e' : b = e ∨ b = it := by simpa using hb
    rcases e' with z | z
    · rw [z]; exact ⟨_, he, fun v q => nomatch q⟩
    · rw [z]; exact Fd.obj i h ht
  keep := fun i h h' st k => let ⟨⟨old, he⟩, ht⟩ := st; ⟨⟨old, k e (by simp) _ he⟩, Fd.keep i h h' ht fun o q => k it (by simp) o q⟩
  item := by
    intro X hP hw hK hc i pins s σ H E I hf st hg
    obtain ⟨⟨old, he⟩, ht⟩ := st
    obtain ⟨xs, x0, hq, hx0⟩ := hg
    obtain ⟨Pt, St, D, d1, d2, d3⟩ := Fd.draw X hP hw hK hc pins s σ H xs I hq
    have hi : i < xs.length := (List.getElem?_eq_some_iff.mp hx0).1
    have hel : e < s.heap.objs.size := Heap.lt_size he
    have hil : it < s.heap.objs.size := by obtain ⟨o, q, _⟩ := Fd.obj i _ ht; exact Heap.lt_size q
    have hef : e ∉ it :: rest := fun z => by
      rcases List.mem_cons.mp z with z | z
      · exact hne z
      · exact hr z
    refine wpAny_pyNext_enum_itemD D he (d1 i ht) hi hne hef fun u h' tk hp ho hit' hT hsz hk => ?_
    obtain ⟨x, hx, ru⟩ := d3 i u hp
    refine ⟨_, rfl, wpAny_letOwnedTupleGo_enum (s := { s with heap := h', toks := tk + 1 }) ho fun h'' he' sb => ?_⟩
    have hT2 : h''.get? s.heap.objs.size = some { cls := .type "tuple", data := .seq #[.int i tk, u] } := (sb.2 _ (Nat.ne_of_gt hel)).trans hT
    have new : ObjOk X.prog X.w (upd H s.heap.objs.size (.tup [.int (i : Nat), x])) h'' s.heap.objs.size (.tup [.int (i : Nat), x]) :=
      ⟨by show 2 ≤ sizeLine; decide, [.int i tk, u], .cons ⟨_, rfl⟩ (.cons ru .nil), ⟨_, hT2, rfl, _, rfl⟩⟩
    have I1 : Inv X pins σ (upd H s.heap.objs.size (.tup [.int (i : Nat), x])) { s with heap := h'', toks := tk + 1 } :=
      I.turnedNew (ch := [e, it]) (fun b ob hb q => (sb.2 b (fun z => hb (by simp [z]))).trans (hk b ob (fun z => hb (by simp [z])) (fun z => hb (by simp [z])) q)) hf (Nat.le_refl _) new
    refine ⟨.ref s.heap.objs.size, _, I1, rfl, ⟨_, x, rfl, I.hok.fresh (Nat.le_refl _), rfl, fun ys hy => by rw [Fd.one X hP hw hK pins s σ H ys xs I hy hq]; exact hx⟩, ⟨⟨u, ?_⟩, Fd.keep _ _ _ (d2 _ _ hit') fun o q => (sb.2 it (Ne.symm hne)).trans q⟩, fun b hb => ?_⟩
    · have e1 : ((i + 1 : Nat) : Int) = (i : Int) + 1 := by omega
      rw [e1]; exact he'
    · have hb' : b < s.heap.objs.size := by
        have e' : b = e ∨ b = it := by simpa using hb
        rcases e' with z | z
        · rw [z]; exact hel
        · rw [z]; exact hil
      rw [upd_ne (Nat.ne_of_lt hb')]
      exact (hf b hb).1
  done := by
    intro X hP hw hK hc i pins s σ H E I hf st hg
    obtain ⟨⟨old, he⟩, ht⟩ := st
    obtain ⟨xs, hq, hx⟩ := hg
    obtain ⟨Pt, St, D, d1, d2, d3⟩ := Fd.draw X hP hw hK hc pins s σ H xs I hq
    obtain ⟨f0, f1, f2, f3, f4, f5⟩ := hf it (by simp)
    exact wpAny_pyNext_enum_endD D he (hx ▸ d1 i ht) fun h' eb => ⟨rfl, I.turned (t' := s.toks) (fun b o hb q => eb b o hb q) f0 f1 f3 f4 f5⟩
  self := fun A i s Q E st h => let ⟨⟨_, he⟩, _⟩ := st; wpAny_pyIter_enum he h
/-- enumerate(x), x a text -/
def iEnumS (ta : TA) : TI := fun σ H R => ta σ H fun vs H1 => ∃ x : PySem.Str, vs = [.str x] ∧ R (Itf fun _ xs => xs = (Sx.sgs x).map V.str) H1
/-- enumerate(x), x a tuple -/
def iEnumT (K : PySem.W.Frag) (ta : TA) : TI := fun σ H R => ta σ H fun vs H1 => ∃ a xs, vs = [.ref a] ∧ SqT K H1 a xs ∧ R (Itf fun H xs => SqT K H a xs) H1
section
variable {X : Cx} {e : Expr} {ta : TA} {p pos tpos : Pos} {elts : List Expr} {kk : Nat}
theorem pi_enumS (hg : Gl X "enumerate") (hm : X.mg "enumerate" = none) (ha : PA X [e] ta) (hs : starEach [e] X.env = [(false, eval e X.env)] := by rfl) :
    PI X (.Tuple elts kk tpos) (.Call (.Name "enumerate" p) [e] [] pos) (iEnumS ta) := by
  refine ⟨fun pins s σ H R I h => ?_⟩
  refine Call_ (ld_blt I hg hm boot_enumerate (PyProof.Rows.callWith_type1 (thn (ha.run pos pins s σ H _ I h) fun us s1 ⟨vs, H1, I1, r1, q1⟩ => ?_) hs rfl))
  obtain ⟨x, ex, q⟩ := q1
  subst ex
  cases r1 with
  | cons r rr =>
    cases rr
    obtain ⟨t, rfl⟩ := r
    refine enum_begins1 (begins_text x t) trivial fun h' he hit hsz hk => wpAny_pyIter_enum he ?_
    have I2 : Inv X pins σ H1 { s1 with heap := h' } := I1.kept (t' := s1.toks) hk
    refine ⟨s1.heap.objs.size + 1, [s1.heap.objs.size + 1, s1.heap.objs.size], _, _, H1, rfl, I2, turn_enumF (s1.heap.objs.size + 1) s1.heap.objs.size (fed_text _ x t) (Nat.succ_ne_self _) (by simp), ⟨⟨.none, he⟩, ⟨_, hit, rfl, rfl⟩⟩, fun b hb => ?_, q⟩
    have e' : b = s1.heap.objs.size + 1 ∨ b = s1.heap.objs.size := by simpa using hb
    have hle : s1.heap.objs.size ≤ b := by
      rcases e' with z | z
      · rw [z]; exact Nat.le_add_right _ _
      · rw [z]; exact Nat.le_refl _
    exact I1.fpOk hle (I1.hok.fresh hle)
theorem pi_enumT (hg : Gl X "enumerate") (hm : X.mg "enumerate" = none) (ha : PA X [e] ta) (hs : starEach [e] X.env = [(false, eval e X.env)] := by rfl) :
    PI X (.Tuple elts kk tpos) (.Call (.Name "enumerate" p) [e] [] pos) (iEnumT X.K ta) := by
  refine ⟨fun pins s σ H R I h => ?_⟩
  refine Call_ (ld_blt I hg hm boot_enumerate (PyProof.Rows.callWith_type1 (thn (ha.run pos pins s σ H _ I h) fun us s1 ⟨vs, H1, I1, r1, q1⟩ => ?_) hs rfl))
  obtain ⟨a, xs, ex, hq, q⟩ := q1
  subst ex
  cases r1 with
  | cons r rr =>
    cases rr
    cases r
    obtain ⟨its, rv, p1, hz⟩ := I1.tuple hq
    have hlt : a < s1.heap.objs.size := by obtain ⟨o, ho, _⟩ := id p1; exact Heap.lt_size ho
    refine enum_begins1 (begins_tuple a its.toArray) p1 fun h' he hit hsz hk => wpAny_pyIter_enum he ?_
    have I2 : Inv X pins σ H1 { s1 with heap := h' } := I1.kept (t' := s1.toks) hk
    refine ⟨s1.heap.objs.size + 1, [s1.heap.objs.size + 1, s1.heap.objs.size], _, _, H1, rfl, I2, turn_enumF (s1.heap.objs.size + 1) s1.heap.objs.size (fed_tup _ a (Nat.ne_of_lt hlt)) (Nat.succ_ne_self _) (by
      simp only [List.mem_singleton]
      exact Nat.ne_of_gt (Nat.lt_succ_of_lt hlt)), ⟨⟨.none, he⟩, ⟨_, hit, rfl, rfl⟩⟩, fun b hb => ?_, q⟩
    have e' : b = s1.heap.objs.size + 1 ∨ b = s1.heap.objs.size := by simpa using hb
    have hle : s1.heap.objs.size ≤ b := by
      rcases e' with z | z
      · rw [z]; exact Nat.le_add_right _ _
      · rw [z]; exact Nat.le_refl _
    exact I1.fpOk hle (I1.hok.fresh hle)
end

/-! ### zip -/
def Itzf (has1 has2 : Hp → List V → Prop) : It :=
  ⟨fun i H => ∃ (xs ys : List V) (x y : V), has1 H xs ∧ has2 H ys ∧ xs[i]? = some x ∧ ys[i]? = some y,
    fun i H v H' => ∃ T x y, v = .ref T ∧ H T = none ∧ H' = upd H T (.tup [x, y]) ∧ (∀ xs, has1 H xs → xs[i]? = some x) ∧ ∀ ys, has2 H ys → ys[i]? = some y,
    fun i H => ∃ xs ys : List V, has1 H xs ∧ has2 H ys ∧ i ≤ xs.length ∧ i ≤ ys.length ∧ (i = xs.length ∨ i = ys.length)⟩
theorem turn_zipF {P : Program} {w : World} {K : PySem.W.Frag} {elts : List Expr} {kk : Nat} {tpos : Pos} {has1 has2 : Hp → List V → Prop} {tn1 tn2 : Nat → Heap → Prop} {rest1 rest2 : List Addr} {z TI TO i1 i2 : Addr} (F1 : Fed P w K i1 rest1 has1 tn1) (F2 : Fed P w K i2 rest2 has2 tn2) (S : ZipSep2 z TI TO i1 i2 (i1 :: rest1) (i2 :: rest2)) :
    Turn P w K (.Tuple elts kk tpos) (Itzf has1 has2) [z, TI, TO, i1, i2] z (fun i h => IsZip h z TI TO .none ∧ IsTupOf2 h TI (.ref i1) (.ref i2) ∧ (∃ x y, IsTupOf2 h TO x y) ∧ tn1 i h ∧ tn2 i h) where
  mem := by simp
  obj := fun i h st c hc => by
    obtain ⟨hz, hTI, ⟨x, y, hTO⟩, h1, h2⟩ := st
    have e' : c = z ∨ c = TI ∨ c = TO ∨ c = i1 ∨ c = i2 := by simpa using hc
    rcases e' with q | q | q | q | q
    · rw [q]; exact ⟨_, hz, fun v q => nomatch q⟩
    · rw [q]; exact ⟨_, hTI, fun v q => nomatch q⟩
    · rw [q]; exact ⟨_, hTO, fun v q => nomatch q⟩
    · rw [q]; exact F1.obj i h h1
    · rw [q]; exact F2.obj i h h2
  keep := fun i h h' st k => by
    obtain ⟨hz, hTI, ⟨x, y, hTO⟩, h1, h2⟩ := st
    exact ⟨k z (by simp) _ hz, k TI (by simp) _ hTI, ⟨x, y, k TO (by simp) _ hTO⟩, F1.keep i h h' h1 fun o q => k i1 (by simp) o q, F2.keep i h h' h2 fun o q => k i2 (by simp) o q⟩
  item := by
    intro X hP hw hK hc i pins s σ H E I hf st hg
    obtain ⟨hz, hTI, ⟨x0, y0, hTO⟩, h1, h2⟩ := st
    obtain ⟨xs, ys, xa, ya, hqx, hqy, hxa, hya⟩ := hg
    obtain ⟨Pt1, St1, D1, a1, a2, a3⟩ := F1.draw X hP hw hK hc pins s σ H xs I hqx
    obtain ⟨Pt2, St2, D2, b1, b2, b3⟩ := F2.draw X hP hw hK hc pins s σ H ys I hqy
    have hzl : z < s.heap.objs.size := Heap.lt_size hz
    have g1 : i1 < s.heap.objs.size := by obtain ⟨o, q, _⟩ := F1.obj i _ h1; exact Heap.lt_size q
    have g2 : i2 < s.heap.objs.size := by obtain ⟨o, q, _⟩ := F2.obj i _ h2; exact Heap.lt_size q
    refine wpAny_pyNext_zipD2_item S D1 D2 hz hTI hTO (a1 i h1) (b1 i h2) (List.getElem?_eq_some_iff.mp hxa).1 (List.getElem?_eq_some_iff.mp hya).1 fun u u2 h' tk hp1 hp2 z' TO' h1' h2' hT hsz hk => ?_
    obtain ⟨x, hx, ru⟩ := a3 i u hp1
    obtain ⟨y, hy, ru2⟩ := b3 i u2 hp2
    refine ⟨_, rfl, wpAny_letOwnedTupleGo_zip (s := { s with heap := h', toks := tk }) z' fun h'' z'' sb => ?_⟩
    have hT2 : h''.get? s.heap.objs.size = some { cls := .type "tuple", data := .seq #[u, u2] } := (sb.2 _ (Nat.ne_of_gt hzl)).trans hT
    have new : ObjOk X.prog X.w (upd H s.heap.objs.size (.tup [x, y])) h'' s.heap.objs.size (.tup [x, y]) :=
      ⟨by show 2 ≤ sizeLine; decide, [u, u2], .cons ru (.cons ru2 .nil), ⟨_, hT2, rfl, _, rfl⟩⟩
    have I1 : Inv X pins σ (upd H s.heap.objs.size (.tup [x, y])) { s with heap := h'', toks := tk } :=
      I.turnedNew (t' := tk) (ch := [z, TI, TO, i1, i2]) (fun c o hb q => (sb.2 c (fun q' => hb (by simp [q']))).trans (hk c o (fun q' => hb (by simp [q'])) (fun q' => hb (by simp [q'])) (fun q' => hb (by simp [q'])) (fun q' => hb (by simp [q'])) q)) hf (Nat.le_refl _) new
    refine ⟨.ref s.heap.objs.size, _, I1, rfl, ⟨_, x, y, rfl, I.hok.fresh (Nat.le_refl _), rfl, fun l hl => by rw [F1.one X hP hw hK pins s σ H l xs I hl hqx]; exact hx, fun l hl => by rw [F2.one X hP hw hK pins s σ H l ys I hl hqy]; exact hy⟩, ⟨z'', ?_, ⟨u, u2, ?_⟩, ?_, ?_⟩, fun c hcm => ?_⟩
    · exact (sb.2 _ S.TIz).trans (hk _ _ S.TIz S.TITO S.TIi1 S.TIi2 hTI)
    · exact (sb.2 _ S.TOz).trans TO'
    · exact F1.keep _ _ _ (a2 _ _ h1') fun o q => (sb.2 _ (Ne.symm S.zi1)).trans q
    · exact F2.keep _ _ _ (b2 _ _ h2') fun o q => (sb.2 _ (Ne.symm S.zi2)).trans q
    · have hlt : c < s.heap.objs.size := by
        have e' : c = z ∨ c = TI ∨ c = TO ∨ c = i1 ∨ c = i2 := by simpa using hcm
        rcases e' with q | q | q | q | q
        · rw [q]; exact hzl
        · rw [q]; exact Heap.lt_size hTI
        · rw [q]; exact Heap.lt_size hTO
        · rw [q]; exact g1
        · rw [q]; exact g2
      rw [upd_ne (Nat.ne_of_lt hlt)]
      exact (hf c hcm).1
  done := by
    intro X hP hw hK hc i pins s σ H E I hf st hg
    obtain ⟨hz, hTI, ⟨x0, y0, hTO⟩, h1, h2⟩ := st
    obtain ⟨xs, ys, hqx, hqy, l1, l2, hend⟩ := hg
    obtain ⟨Pt1, St1, D1, a1, a2, a3⟩ := F1.draw X hP hw hK hc pins s σ H xs I hqx
    obtain ⟨Pt2, St2, D2, b1, b2, b3⟩ := F2.draw X hP hw hK hc pins s σ H ys I hqy
    exact wpAny_pyNext_zipD2_end S D1 D2 hz hTI hTO (a1 i h1) (b1 i h2) l1 l2 hend fun h' tk hk => ⟨rfl, I.turnedL (t' := tk) (ch := [z, TI, TO, i1, i2]) (fun c o hb q =>
      hk c o (fun q' => hb (by simp [q'])) (fun q' => hb (by simp [q'])) (fun q' => hb (by simp [q'])) (fun q' => hb (by simp [q'])) q) hf⟩
  self := fun A i s Q E st h => wpAny_pyIter_zip st.1 h
/-- zip(x, t), x a text, t a tuple -/
def iZipST (K : PySem.W.Frag) (ta : TA) : TI := fun σ H R => ta σ H fun vs H1 => ∃ (x : PySem.Str) (a : Addr) (ys : List V), vs = [.str x, .ref a] ∧ SqT K H1 a ys ∧ R (Itzf (fun _ xs => xs = (Sx.sgs x).map V.str) fun H xs => SqT K H a xs) H1
theorem pi_zipST {X : Cx} {e e2 : Expr} {ta : TA} {p pos tpos : Pos} {elts : List Expr} {kk : Nat} (hg : Gl X "zip") (hm : X.mg "zip" = none) (ha : PA X [e, e2] ta)
    (hs : starEach [e, e2] X.env = (false, eval e X.env) :: starEach [e2] X.env := by rfl) (hpl : (backTo pos (starEach [e2] X.env)).any (·.1) = false := by rfl) :
    PI X (.Tuple elts kk tpos) (.Call (.Name "zip" p) [e, e2] [] pos) (iZipST X.K ta) := by
  refine ⟨fun pins s σ H R I h => ?_⟩
  refine Call_ (ld_blt I hg hm PyProof.Rows.boot_zip (PyProof.Rows.callWith_type1 (thn (ha.run pos pins s σ H _ I h) fun us s1 ⟨vs, H1, I1, r1, q1⟩ => ?_) hs hpl))
  obtain ⟨x, b, ys, ex, hqy, q⟩ := q1
  subst ex
  cases r1 with
  | cons r rr =>
    cases rr with
    | cons r' rr =>
      cases rr
      obtain ⟨t, rfl⟩ := r
      cases r'
      obtain ⟨its2, rv2, p2, _⟩ := I1.tuple hqy
      have lb : b < s1.heap.objs.size := by obtain ⟨o, ho, _⟩ := id p2; exact Heap.lt_size ho
      refine zip_begins2 (begins_text x t) (begins_tuple b its2.toArray) trivial p2 fun h' hz hTI hTO h1 h2 hsz hk => wpAny_pyIter_zip hz ?_
      have I2 : Inv X pins σ H1 { s1 with heap := h' } := I1.kept (t' := s1.toks) hk
      refine ⟨s1.heap.objs.size + 4, [s1.heap.objs.size + 4, s1.heap.objs.size + 2, s1.heap.objs.size + 3, s1.heap.objs.size, s1.heap.objs.size + 1], _, _, H1, rfl, I2,
        turn_zipF (fed_text _ x t) (fed_tup _ b (Nat.ne_of_lt (Nat.lt_succ_of_lt lb))) (zip_sep2 (fp1 := []) (fp2 := [b]) (by simp) (by intro c hc; rw [List.mem_singleton.mp hc]; exact lb)), ⟨hz, hTI, ⟨_, _, hTO⟩, ⟨_, h1, rfl, rfl⟩, ⟨_, h2, rfl, rfl⟩⟩, fun c hcm => ?_, q⟩
      have e' : c = s1.heap.objs.size + 4 ∨ c = s1.heap.objs.size + 2 ∨ c = s1.heap.objs.size + 3 ∨ c = s1.heap.objs.size ∨ c = s1.heap.objs.size + 1 := by simpa using hcm
      have hle : s1.heap.objs.size ≤ c := by
        rcases e' with z | z | z | z | z
        · rw [z]; exact Nat.le_add_right _ _
        · rw [z]; exact Nat.le_add_right _ _
        · rw [z]; exact Nat.le_add_right _ _
        · rw [z]; exact Nat.le_refl _
        · rw [z]; exact Nat.le_add_right _ _
      exact I1.fpOk hle (I1.hok.fresh hle)
end Rx
set_option Elab.async false
set_option linter.all false
set_option maxRecDepth 100000
set_option maxHeartbeats 4000000
/-! Bx: what all the laws' texts share: texts as lists of signs, loops over texts and ranges, small facts of heaps -/
namespace Bx
open PySem PySem.Spec PyProof.Rows L2 Evl
abbrev mk (l : List Nat) : Str := ⟨l.toArray⟩
abbrev tx (l : List Nat) : V := .str (mk l)
theorem mk_list (l : List Nat) : (mk l).cps.toList = l := rfl
theorem mk_eq (z : Str) : z = mk z.cps.toList := rfl
theorem mk_inj {l m : List Nat} : mk l = mk m ↔ l = m := ⟨fun h => congrArg (fun z : Str => z.cps.toList) h, fun h => h ▸ rfl⟩
theorem tx_inj {l m : List Nat} : tx l = tx m ↔ l = m := ⟨fun h => mk_inj.mp (V.str.inj h), fun h => h ▸ rfl⟩
theorem mk_len (l : List Nat) : (mk l).length = l.length := by show l.toArray.size = l.length; simp
theorem mk_app (l m : List Nat) : mk l ++ mk m = mk (l ++ m) := by
  show Str.append (mk l) (mk m) = _
  simp [Str.append]
theorem sgs_mk (l : List Nat) : Sx.sgs (mk l) = l.map fun c => mk [c] := rfl
theorem cut_mk (l : List Nat) (a b : Option Int) : cutS (mk l) a b = mk ((l.drop (HT.sIx l.length 0 a)).take (HT.sIx l.length l.length b - HT.sIx l.length 0 a)) := by
  unfold cutS
  rw [mk_len]
theorem turned_mk (l : List Nat) : Rx.turned (mk l) = mk l.reverse := rfl
theorem ix_nat (n d : Nat) (i : Nat) : HT.sIx n d (some (i : Int)) = min i n := HT.sIx_nat n d i
theorem cut_to (l : List Nat) (i : Nat) : cutS (mk l) none (some (i : Int)) = mk (l.take i) := by
  rw [cut_mk, ix_nat, HT.sIx_none, List.drop_zero, Nat.sub_zero]
  congr 1
  by_cases h : i ≤ l.length
  · rw [Nat.min_eq_left h]
  · rw [Nat.min_eq_right (by omega), List.take_of_length_le (Nat.le_refl _), List.take_of_length_le (by omega)]
theorem cut_from (l : List Nat) (i : Nat) : cutS (mk l) (some (i : Int)) none = mk (l.drop i) := by
  rw [cut_mk, ix_nat, HT.sIx_none]
  congr 1
  by_cases h : i ≤ l.length
  · rw [Nat.min_eq_left h, List.take_of_length_le (by rw [List.length_drop]; omega)]
  · rw [Nat.min_eq_right (by omega), List.drop_of_length_le (Nat.le_refl _), List.drop_of_length_le (show l.length ≤ i by omega), List.take_nil]
/-- small letters alone -/
def Low (l : List Nat) : Prop := ∀ c ∈ l, 97 ≤ c ∧ c ≤ 122
theorem Low.app {l m : List Nat} (a : Low l) (b : Low m) : Low (l ++ m) := fun c h => (List.mem_append.mp h).elim (a c) (b c)
theorem Low.sub {l m : List Nat} (a : Low l) (h : ∀ c ∈ m, c ∈ l) : Low m := fun c hc => a c (h c hc)
theorem Low.nil : Low [] := fun c h => by simp at h
theorem Low.asc {l : List Nat} (a : Low l) : (mk l).cps.all (· < 128) = true := by
  rw [← Array.all_toList, List.all_eq_true]
  intro c hc
  have := a c hc
  exact decide_eq_true (by omega)
/-! ### heaps -/
theorem ex_upd {H : Hp} {p : Addr} {o : HO} (h : H p = none) : Ex H (upd H p o) := Ex.new h
/-- all but one object as before -/
def Xg (g : Addr) (H H' : Hp) : Prop := ∀ a o, a ≠ g → H a = some o → H' a = some o
theorem Xg.of {g : Addr} {H H' : Hp} (e : Ex H H') : Xg g H H' := fun a o _ h => e a o h
theorem Xg.trans {g : Addr} {H H1 H2 : Hp} (a : Xg g H H1) (b : Xg g H1 H2) : Xg g H H2 := fun x o n h => b x o n (a x o n h)
theorem Xg.refl (g : Addr) (H : Hp) : Xg g H H := fun _ _ _ h => h
theorem Xg.upd {g : Addr} {H H' : Hp} {o : HO} (e : Xg g H H') : Xg g H (L2.upd H' g o) := fun a u n h => by
  rw [upd_ne n]
  exact e a u n h
theorem Xg.fresh {g : Addr} {H H' : Hp} (e : Xg g H H') (hg : H' g ≠ none) {p : Addr} (h : H' p = none) : H p = none := by
  cases q : H p with
  | none => rfl
  | some o =>
    by_cases z : p = g
    · rw [z] at h
      exact absurd h hg
    · rw [e p o z q] at h
      cases h
/-- an extension, by what each is -/
theorem ex_ne {H : Hp} {a b : Addr} {o : HO} (h : H a = some o) (h' : H b = none) : a ≠ b := ne_of_none h h'
section
variable {K : PySem.W.Frag} {σ : L2.St} {H : Hp} {D : Ends} {tu : TS} {te ta : TE}
/-- for c in a text -/
theorem forS {j : Nat} {l : List Nat} (h : Ev te σ H (tx l)) (Pv : Nat → L2.St → Hp → Prop) (h0 : ∀ H1, Ex H H1 → Pv 0 σ H1)
    (hs : ∀ i c σ' H', l[i]? = some c → Pv i σ' H' → tu { D with nx := Pv (i + 1), ct := Pv (i + 1), bk := D.nx } (σ'.set j (some (tx [c]))) H')
    (hd : ∀ σ' H', Pv l.length σ' H' → D.nx σ' H') : tFor (iStr te) (gName j) tu D σ H :=
  h H (Ex.refl H) _ fun H1 e => ⟨mk l, rfl, by
    have w := walk_str (z := mk l)
    refine for_it w Pv (h0 H1 e) (fun _ _ _ _ _ => trivial) (fun i x σ' H' H2 hi p y => ?_) (fun σ' H' p => hd σ' H' ?_)
    · obtain ⟨rfl, c, hc, rfl⟩ := y
      refine hs i c σ' H2 ?_ p
      rw [← hc]
      simp
    · have e : (mk l).cps.size = l.length := by simp
      rw [← e]
      exact p⟩
/-- for i in reversed(range(n)) -/
theorem forRv {j : Nat} {n : Int} (h : Ev ta σ H (.int n)) (hn : 0 ≤ n ∧ n ≤ 100000) (Pv : Nat → L2.St → Hp → Prop) (h0 : ∀ H1, Ex H H1 → Pv 0 σ H1)
    (hs : ∀ (i : Nat) σ' H', (i : Int) < n → Pv i σ' H' → tu { D with nx := Pv (i + 1), ct := Pv (i + 1), bk := D.nx } (σ'.set j (some (.int (n - 1 - i)))) H')
    (hd : ∀ σ' H', Pv n.toNat σ' H' → D.nx σ' H') : tFor (iRevR (tRg1 ta)) (gName j) tu D σ H :=
  h H (Ex.refl H) _ fun H1 e => ⟨n, rfl, by omega, by omega, by omega, by omega, by
    have z : (n - 0).toNat = n.toNat := by rw [Int.sub_zero]
    rw [z]
    refine for_rangeC Pv (h0 H1 e) (fun i σ' H' hi p => ?_) hd
    have q : (0 : Int) + ((n.toNat : Nat) : Int) - 1 + (i : Nat) * (-1) = n - 1 - i := by omega
    rw [q]
    exact hs i σ' H' (by omega) p⟩
theorem rng_down {a : Int} (h0 : -1 ≤ a) (h1 : a ≤ 100000) : RgC a (-1) (-1) (a + 1).toNat := by
  have q := RgC.neg (i := a) (j := -1) (by omega) (by omega) (by omega) (by omega)
  have e : a - -1 = a + 1 := by omega
  rwa [e] at q
end
end Bx
namespace Bx
open PySem PySem.Spec PyProof.Rows L2 Evl
theorem sign_facts : ∀ c, c < 128 → (97 ≤ c → c ≤ 122 → Unicode.isAlpha c = true ∧ Unicode.isLower c = true ∧ (Unicode.isUpper c || Unicode.isTitle c) = false) := by decide +kernel
theorem low_ascii {l : List Nat} (h : Low l) : Txt.isascii (mk l) = true := h.asc
theorem low_alpha {l : List Nat} (h : Low l) (n : l ≠ []) : Txt.isalpha (mk l) = true := by
  unfold Txt.isalpha
  rw [Bool.and_eq_true]
  refine ⟨decide_eq_true ?_, ?_⟩
  · rw [mk_len]
    exact List.length_pos_iff.mpr n
  · rw [← Array.all_toList, List.all_eq_true]
    intro c hc
    have := h c hc
    exact (sign_facts c (by omega) (by omega) (by omega)).1
theorem low_lower {l : List Nat} (h : Low l) (n : l ≠ []) : Txt.islower (mk l) = true := by
  unfold Txt.islower
  rw [Bool.and_eq_true]
  constructor
  · rw [← Array.any_toList, List.any_eq_true]
    cases l with
    | nil => exact absurd rfl n
    | cons c r =>
      have := h c List.mem_cons_self
      exact ⟨c, List.mem_cons_self, (sign_facts c (by omega) (by omega) (by omega)).2.1⟩
  · rw [Bool.not_eq_true', ← Array.any_toList, List.any_eq_false]
    intro c hc
    have := h c hc
    rw [(sign_facts c (by omega) (by omega) (by omega)).2.2]
    decide
end Bx
namespace Bx
open PySem PySem.Spec PyProof.Rows L2 Evl
theorem mul_ok {i j : Int} (hi : i.natAbs < 2 ^ 9000) (hj : j.natAbs < 2 ^ 9000) : CMulW i j := wide_mul hi hj (by decide) (by decide) (by decide)
theorem abs_nat {n a : Nat} (h : n < 2 ^ a) : ((n : Nat) : Int).natAbs < 2 ^ a := by rw [Int.natAbs_natCast]; exact h
theorem small_pow {n : Nat} (h : n < 2 ^ 64) : n < 2 ^ 9000 := Nat.lt_of_lt_of_le h (Nat.pow_le_pow_right (by decide) (by decide))
theorem small_abs {i : Int} (h : i.natAbs < 2 ^ 64) : i.natAbs < 2 ^ 9000 := small_pow h
/-! ### data that are compared -/
theorem eqvAll_ints : ∀ ns ms : List Int, PyData.eqvAll (ns.map .int) (ms.map .int) = decide (ns = ms)
  | [], [] => by simp [PyData.eqvAll]
  | [], _ :: _ => by simp [PyData.eqvAll]
  | _ :: _, [] => by simp [PyData.eqvAll]
  | n :: ns, m :: ms => by
    show ((n == m) && PyData.eqvAll (ns.map .int) (ms.map .int)) = _
    rw [eqvAll_ints ns ms]
    by_cases h1 : n = m <;> by_cases h2 : ns = ms <;> simp [h1, h2]
theorem eqvAll_strs : ∀ ns ms : List Str, PyData.eqvAll (ns.map .str) (ms.map .str) = decide (ns = ms)
  | [], [] => by simp [PyData.eqvAll]
  | [], _ :: _ => by simp [PyData.eqvAll]
  | _ :: _, [] => by simp [PyData.eqvAll]
  | n :: ns, m :: ms => by
    show ((n == m) && PyData.eqvAll (ns.map .str) (ms.map .str)) = _
    rw [eqvAll_strs ns ms]
    by_cases h1 : n = m <;> by_cases h2 : ns = ms <;> simp [h1, h2]
theorem dpAll_ints {K : PySem.W.Frag} {H : Hp} : ∀ ns : List Int, DpAll K H (ns.map V.int) (ns.map PyData.int)
  | [] => .nil
  | n :: ns => .cons (.int n) (dpAll_ints ns)
theorem dpAll_strs {K : PySem.W.Frag} {H : Hp} : ∀ ns : List Str, DpAll K H (ns.map V.str) (ns.map PyData.str)
  | [] => .nil
  | n :: ns => .cons (.str n) (dpAll_strs ns)
theorem flat_shaped (ds : List PyData) (h : ∀ d ∈ ds, PyData.canLay0 d = true ∧ PyData.depth d = 0) : SeqAt.shaped (.list ds) = true ∧ SeqAt.shaped (.tuple ds) = true := by
  have a : PyData.canLayAll0 ds = true ∧ PyData.depthAll ds = 0 := by
    induction ds with
    | nil => exact ⟨rfl, rfl⟩
    | cons d ds ih =>
      obtain ⟨i1, i2⟩ := ih fun x hx => h x (List.mem_cons_of_mem _ hx)
      obtain ⟨h1, h2⟩ := h d List.mem_cons_self
      refine ⟨?_, ?_⟩
      · show (PyData.canLay0 d && PyData.canLayAll0 ds) = true
        rw [h1, i1]
        rfl
      · show max (PyData.depth d) (PyData.depthAll ds) = 0
        rw [h2, i2]
        rfl
  have z : decide (PyData.depthAll ds + 1 ≤ 64) = true := by
    rw [a.2]
    decide
  constructor
  · show (PyData.canLayAll0 ds && decide (PyData.depthAll ds + 1 ≤ 64)) = true
    rw [a.1, z]
    rfl
  · show (PyData.canLayAll0 ds && decide (PyData.depthAll ds + 1 ≤ 64)) = true
    rw [a.1, z]
    rfl
theorem shaped_ints (ns : List Int) : SeqAt.shaped (.list (ns.map PyData.int)) = true := (flat_shaped _ fun d hd => by
  obtain ⟨n, _, rfl⟩ := List.mem_map.mp hd
  exact ⟨rfl, rfl⟩).1
theorem str_ok {l : List Nat} (h : Low l) : PyData.canLay0 (.str (mk l)) = true := by
  show (mk l).cps.all (· < 0x110000) = true
  rw [← Array.all_toList, List.all_eq_true]
  intro c hc
  have := h c hc
  exact decide_eq_true (by omega)
theorem shaped_strs (ns : List Str) (h : ∀ z ∈ ns, Low z.cps.toList) : SeqAt.shaped (.list (ns.map PyData.str)) = true := (flat_shaped _ fun d hd => by
  obtain ⟨n, hn, rfl⟩ := List.mem_map.mp hd
  exact ⟨str_ok (h n hn), rfl⟩).1
/-! ### sorted texts -/
def leS (a b : Str) : Prop := a.cps.toList ≤ b.cps.toList
theorem leS_of {a b : Str} (h : ltCps b.cps.toList a.cps.toList = false) : leS a b := by
  rw [ltCps_eq] at h
  exact of_decide_eq_false h
theorem rise_all : ∀ (l : List Str) (p : Str), risingS p l = true → (p :: l).Pairwise leS
  | [], p, _ => List.pairwise_singleton _ _
  | y :: r, p, h => by
    have h' : (!ltCps y.cps.toList p.cps.toList && risingS y r) = true := h
    rw [Bool.and_eq_true, Bool.not_eq_true'] at h'
    have ih := rise_all r y h'.2
    have py := leS_of h'.1
    refine List.pairwise_cons.mpr ⟨fun x hx => ?_, ih⟩
    rcases List.mem_cons.mp hx with e | e
    · rw [e]
      exact py
    · exact List.le_trans py ((List.pairwise_cons.mp ih).1 x e)
theorem sorted_all {l : List Str} (h : sortedS l = true) : l.Pairwise leS := by
  cases l with
  | nil => exact List.Pairwise.nil
  | cons p r => exact rise_all r p h
theorem leS_anti {a b : Str} (h : leS a b) (h' : leS b a) : a = b := by
  have e := List.le_antisymm h h'
  have ea := mk_eq a
  have eb := mk_eq b
  rw [ea, eb, e]
/-- the one sorted list -/
theorem sorted_one {l m : List Str} (hp : l.Perm m) (hl : sortedS l = true) (hm : m.Pairwise leS) : l = m :=
  List.Perm.eq_of_pairwise (le := leS) (fun _ _ _ _ => leS_anti) (sorted_all hl) hm hp
theorem sing_le {a b : Nat} (h : a < b) : leS (mk [a]) (mk [b]) := by
  show [a] ≤ [b]
  refine List.not_lt.mp fun z => ?_
  have := List.cons_lt_cons_iff.mp z
  rcases this with q | ⟨q, _⟩ <;> omega
theorem signs_sorted {L : List Nat} (h : L.Pairwise (· < ·)) : (L.map fun c => mk [c]).Pairwise leS := by
  rw [List.pairwise_map]
  exact h.imp sing_le
theorem sing_inj {a b : Nat} (h : mk [a] = mk [b]) : a = b := by
  have := mk_inj.mp h
  simpa using this
theorem signs_nodup {L : List Nat} (h : L.Nodup) : (L.map fun c => mk [c]).Nodup := by
  unfold List.Nodup at h ⊢
  rw [List.pairwise_map]
  exact h.imp fun n e => n (sing_inj e)
theorem uniq_id {κ : Type} [DecidableEq κ] : ∀ (ks acc : List κ), (acc ++ ks).Nodup → Sx.uniq acc ks = acc ++ ks
  | [], acc, _ => by rw [Sx.uniq, List.append_nil]
  | k :: r, acc, h => by
    have n : k ∉ acc := fun hk => by
      rw [List.nodup_append] at h
      exact h.2.2 k hk k List.mem_cons_self rfl
    rw [Sx.uniq, if_neg n, uniq_id r (acc ++ [k]) (by rw [List.append_assoc]; exact h), List.append_assoc]
    rfl
theorem lt_nodup {L : List Nat} (h : L.Pairwise (· < ·)) : L.Nodup := h.imp fun a e => by omega
/-- an alphabet -/
structure Alph (L : List Nat) : Prop where
  low : Low L
  up : L.Pairwise (· < ·)
  one : 1 ≤ L.length
  four : L.length ≤ 4
end Bx
set_option Elab.async false
set_option linter.all false
set_option maxRecDepth 100000
set_option maxHeartbeats 4000000
/-! Rx4: loops over enumerate and zip -/
namespace Rx
open PySem PySem.Spec PyProof.Rows L2 Evl Bx
theorem for_enumF {has : Hp → List V → Prop} {xs : List V} {g : TG} {tb : TS} {D : Ends} {σ : L2.St} {H : Hp} (Pv : Nat → L2.St → Hp → Prop) (h0 : Pv 0 σ H) (hq : ∀ i σ H, Pv i σ H → has H xs)
    (hs : ∀ (i : Nat) (x : V) (T : Addr) (σ : L2.St) (H : Hp), xs[i]? = some x → Pv i σ H → H T = none → g (.ref T) σ (upd H T (.tup [.int (i : Nat), x])) fun σ2 H2 => tb { D with nx := Pv (i + 1), ct := Pv (i + 1), bk := D.nx } σ2 H2) (hd : ∀ σ H, Pv xs.length σ H → D.nx σ H) :
    ∃ W : Nat → Nat → L2.St → Hp → Prop, (∃ m, W 0 m σ H) ∧ ∀ i m σ H, W i m σ H →
      ((Itf has).stop i H ∧ D.nx σ H) ∨ ((Itf has).go i H ∧ ∃ N : L2.St → Hp → Prop, (∀ σ' H', N σ' H' → ∃ m', m' < m ∧ W (i + 1) m' σ' H') ∧ ∀ v H', (Itf has).yld i H v H' → g v σ H' fun σ2 H2 => tb { D with nx := N, ct := N, bk := D.nx } σ2 H2) := by
  refine ⟨fun i m σ H => m = xs.length - i ∧ i ≤ xs.length ∧ Pv i σ H, ⟨xs.length, rfl, Nat.zero_le _, h0⟩, ?_⟩
  rintro i m σ H ⟨rfl, hi, p⟩
  have qx := hq i σ H p
  by_cases hlt : i < xs.length
  · have hx : xs[i]? = some xs[i] := List.getElem?_eq_getElem hlt
    refine .inr ⟨⟨xs, _, qx, hx⟩, Pv (i + 1), fun σ' H' p' => ⟨xs.length - (i + 1), by omega, rfl, hlt, p'⟩, fun v H' y => ?_⟩
    obtain ⟨T, x', rfl, hT, rfl, f1⟩ := y
    exact hs i x' T σ H (f1 xs qx) p hT
  · have e : i = xs.length := by omega
    subst e
    exact .inl ⟨⟨xs, qx, rfl⟩, hd σ H p⟩
theorem for_zipF {has1 has2 : Hp → List V → Prop} {xs ys : List V} {g : TG} {tb : TS} {D : Ends} {σ : L2.St} {H : Hp} (hl : xs.length = ys.length) (Pv : Nat → L2.St → Hp → Prop) (h0 : Pv 0 σ H) (hq : ∀ i σ H, Pv i σ H → has1 H xs ∧ has2 H ys)
    (hs : ∀ (i : Nat) (x y : V) (T : Addr) (σ : L2.St) (H : Hp), xs[i]? = some x → ys[i]? = some y → Pv i σ H → H T = none → g (.ref T) σ (upd H T (.tup [x, y])) fun σ2 H2 => tb { D with nx := Pv (i + 1), ct := Pv (i + 1), bk := D.nx } σ2 H2) (hd : ∀ σ H, Pv xs.length σ H → D.nx σ H) :
    ∃ W : Nat → Nat → L2.St → Hp → Prop, (∃ m, W 0 m σ H) ∧ ∀ i m σ H, W i m σ H →
      ((Itzf has1 has2).stop i H ∧ D.nx σ H) ∨ ((Itzf has1 has2).go i H ∧ ∃ N : L2.St → Hp → Prop, (∀ σ' H', N σ' H' → ∃ m', m' < m ∧ W (i + 1) m' σ' H') ∧ ∀ v H', (Itzf has1 has2).yld i H v H' → g v σ H' fun σ2 H2 => tb { D with nx := N, ct := N, bk := D.nx } σ2 H2) := by
  refine ⟨fun i m σ H => m = xs.length - i ∧ i ≤ xs.length ∧ Pv i σ H, ⟨xs.length, rfl, Nat.zero_le _, h0⟩, ?_⟩
  rintro i m σ H ⟨rfl, hi, p⟩
  obtain ⟨qx, qy⟩ := hq i σ H p
  by_cases hlt : i < xs.length
  · have hx : xs[i]? = some xs[i] := List.getElem?_eq_getElem hlt
    have hlt2 : i < ys.length := by omega
    have hy : ys[i]? = some ys[i] := List.getElem?_eq_getElem hlt2
    refine .inr ⟨⟨xs, ys, _, _, qx, qy, hx, hy⟩, Pv (i + 1), fun σ' H' p' => ⟨xs.length - (i + 1), by omega, rfl, hlt, p'⟩, fun v H' y => ?_⟩
    obtain ⟨T, x', y', rfl, hT, rfl, f1, f2⟩ := y
    exact hs i x' y' T σ H (f1 xs qx) (f2 ys qy) p hT
  · have e : i = xs.length := by omega
    subst e
    exact .inl ⟨⟨xs, ys, qx, qy, Nat.le_refl _, by omega, .inl rfl⟩, hd σ H p⟩
/-- for i, c in enumerate(a text): the pair's two names in the slots j and k -/
theorem forEnumS {K : PySem.W.Frag} {σ : L2.St} {H : Hp} {D : Ends} {tu : TS} {ta : TA} {j k : Nat} {l : List Nat} (h : EvA ta σ H [tx l]) (Pv : Nat → L2.St → Hp → Prop) (h0 : ∀ H1, Ex H H1 → Pv 0 σ H1)
    (hm : ∀ i σ' H' H2, Ex H' H2 → Pv i σ' H' → Pv i σ' H2)
    (hs : ∀ i c σ' H', l[i]? = some c → Pv i σ' H' → tu { D with nx := Pv (i + 1), ct := Pv (i + 1), bk := D.nx } ((σ'.set j (some (.int (i : Nat)))).set k (some (tx [c]))) H')
    (hd : ∀ σ' H', Pv l.length σ' H' → D.nx σ' H') : tFor (iEnumS ta) (gTup K 2 (gCons (gName j) (gCons (gName k) gNil))) tu D σ H :=
  h H (Ex.refl H) _ fun H1 e => ⟨mk l, rfl, by
    have hl : (l.map fun c => tx [c]) = (Sx.sgs (mk l)).map V.str := by rw [sgs_mk, List.map_map] <;> rfl
    have hz : ((Sx.sgs (mk l)).map V.str).length = l.length := by rw [← hl, List.length_map]
    refine for_enumF (xs := (Sx.sgs (mk l)).map V.str) Pv (h0 H1 e) (fun _ _ _ _ => rfl) (fun i x T σ' H' hx p hT => ?_) (fun σ' H' p => hd σ' H' (by rw [hz] at p; exact p))
    rw [← hl, List.getElem?_map] at hx
    cases hc : l[i]? with
    | none => rw [hc] at hx; cases hx
    | some c =>
      rw [hc] at hx
      obtain rfl : tx [c] = x := Option.some.inj hx
      exact ⟨T, _, rfl, .inl (.inl upd_same), rfl, _, _, rfl, _, _, rfl, rfl, hs i c σ' _ hc (hm i σ' H' _ (Ex.new hT) p)⟩⟩
/-- for i, q in enumerate(a tuple of numbers) -/
theorem forEnumT {K : PySem.W.Frag} {σ : L2.St} {H : Hp} {D : Ends} {tu : TS} {ta : TA} {j k : Nat} {a : Addr} {l : List Nat} (h : EvA ta σ H [.ref a]) (ht : H a = some (.tup (l.map fun q => V.int (q : Nat)))) (Pv : Nat → L2.St → Hp → Prop) (h0 : ∀ H1, Ex H H1 → Pv 0 σ H1)
    (hq : ∀ i σ' H', Pv i σ' H' → Ex H H') (hm : ∀ i σ' H' H2, Ex H' H2 → Pv i σ' H' → Pv i σ' H2)
    (hs : ∀ i q σ' H', l[i]? = some q → Pv i σ' H' → tu { D with nx := Pv (i + 1), ct := Pv (i + 1), bk := D.nx } ((σ'.set j (some (.int (i : Nat)))).set k (some (.int (q : Nat)))) H')
    (hd : ∀ σ' H', Pv l.length σ' H' → D.nx σ' H') : tFor (iEnumT K ta) (gTup K 2 (gCons (gName j) (gCons (gName k) gNil))) tu D σ H :=
  h H (Ex.refl H) _ fun H1 e => ⟨a, _, rfl, .inl (.inl (e _ _ ht)), by
    refine for_enumF (xs := l.map fun q => V.int (q : Nat)) Pv (h0 H1 e) (fun i σ' H' p => .inl (.inl (hq i σ' H' p _ _ ht))) (fun i x T σ' H' hx p hT => ?_) (fun σ' H' p => hd σ' H' (by rw [List.length_map] at p; exact p))
    rw [List.getElem?_map] at hx
    cases hc : l[i]? with
    | none => rw [hc] at hx; cases hx
    | some c =>
      rw [hc] at hx
      obtain rfl : V.int (c : Nat) = x := Option.some.inj hx
      exact ⟨T, _, rfl, .inl (.inl upd_same), rfl, _, _, rfl, _, _, rfl, rfl, hs i c σ' _ hc (hm i σ' H' _ (Ex.new hT) p)⟩⟩
/-- for c, q in zip(a text, a tuple of numbers) -/
theorem forZipST {K : PySem.W.Frag} {σ : L2.St} {H : Hp} {D : Ends} {tu : TS} {ta : TA} {j k : Nat} {a : Addr} {u l : List Nat} (h : EvA ta σ H [tx u, .ref a]) (ht : H a = some (.tup (l.map fun q => V.int (q : Nat)))) (hl : u.length = l.length) (Pv : Nat → L2.St → Hp → Prop) (h0 : ∀ H1, Ex H H1 → Pv 0 σ H1)
    (hq : ∀ i σ' H', Pv i σ' H' → Ex H H') (hm : ∀ i σ' H' H2, Ex H' H2 → Pv i σ' H' → Pv i σ' H2)
    (hs : ∀ i c q σ' H', u[i]? = some c → l[i]? = some q → Pv i σ' H' → tu { D with nx := Pv (i + 1), ct := Pv (i + 1), bk := D.nx } ((σ'.set j (some (tx [c]))).set k (some (.int (q : Nat)))) H')
    (hd : ∀ σ' H', Pv u.length σ' H' → D.nx σ' H') : tFor (iZipST K ta) (gTup K 2 (gCons (gName j) (gCons (gName k) gNil))) tu D σ H :=
  h H (Ex.refl H) _ fun H1 e => ⟨mk u, a, _, rfl, .inl (.inl (e _ _ ht)), by
    have hu : (u.map fun c => tx [c]) = (Sx.sgs (mk u)).map V.str := by rw [sgs_mk, List.map_map] <;> rfl
    have hz : ((Sx.sgs (mk u)).map V.str).length = u.length := by rw [← hu, List.length_map]
    refine for_zipF (xs := (Sx.sgs (mk u)).map V.str) (ys := l.map fun q => V.int (q : Nat)) (by rw [hz, List.length_map, hl]) Pv (h0 H1 e) (fun i σ' H' p => ⟨rfl, .inl (.inl (hq i σ' H' p _ _ ht))⟩) (fun i x y T σ' H' hx hy p hT => ?_) (fun σ' H' p => hd σ' H' (by rw [hz] at p; exact p))
    rw [← hu, List.getElem?_map] at hx
    rw [List.getElem?_map] at hy
    cases hc : u[i]? with
    | none => rw [hc] at hx; cases hx
    | some c =>
      cases hd : l[i]? with
      | none => rw [hd] at hy; cases hy
      | some q =>
        rw [hc] at hx
        rw [hd] at hy
        obtain rfl : tx [c] = x := Option.some.inj hx
        obtain rfl : V.int (q : Nat) = y := Option.some.inj hy
        exact ⟨T, _, rfl, .inl (.inl upd_same), rfl, _, _, rfl, _, _, rfl, rfl, hs i c q σ' _ hc hd (hm i σ' H' _ (Ex.new hT) p)⟩⟩
theorem ne_same {x y : V} (h : x = y) : V.bl (!decide (x = y)) = V.bl false := by rw [decide_eq_true h]; rfl
theorem eq_same {x y : V} (h : x = y) : V.bl (decide (x = y)) = V.bl true := by rw [decide_eq_true h]
end Rx
set_option Elab.async false
set_option linter.all false
set_option maxRecDepth 100000
set_option maxHeartbeats 4000000
/-! Gx: promises of defs that hold where no repr is under way around the call: what repr of a list or a tuple wants -/
namespace Gx
open PySem PySem.Spec PyProof.Rows L2
structure FnG (P : Program) (w : World) (K : PySem.W.Frag) (mg : Str → Option Value) (base : Heap) (CX : CXT) (k : Nat) (f : Addr) (fd : FuncData) (ps : List Str) (sp : Sp) : Prop where
  len : ∀ vs H Q E, sp vs H Q E → vs.length = ps.length
  go : ∀ (A : Around) (o : List Env) (s : Shared) (H : Hp) (as : Args) (us : List Value) (vs : List V) (Q : VK) (E : XK), A.guards = some [] → Room k A → Env0 P w K mg base A o s H →
    BindsTo s fd as (ps.zip us) → Vals vs us → sp vs H Q E → codeAny (model P w) A (.call (.ref f) as) (CR CX o P w H s Q E) s
section
variable {P : Program} {w : World} {K : PySem.W.Frag} {mg : Str → Option Value} {base : Heap}
theorem FnG.of {CX : CXT} {k : Nat} {f : Addr} {fd : FuncData} {ps : List Str} {sp : Sp} (F : FnOk P w K mg base CX k f fd ps sp) : FnG P w K mg base CX k f fd ps sp :=
  ⟨F.len, fun A o s H as us vs Q E _ hr e hb r h => F.run A o s H as us vs Q E hr e hb r h⟩
theorem okG {x qual : Str} {st : Stmt} {f : Addr} {fd : FuncData} {N ps : List Str} {k : Nat} {sp : Sp} (F : Fun K x qual st f fd) (S : FnScope N ps (defScope st)) (len : ∀ vs H Q E, sp vs H Q E → vs.length = ps.length)
    (body : ∀ (cdv : Value) (A : Around) (o : List Env) (s : Shared) (H : Hp) (vs : List V) (Q : VK) (E : XK), A.guards = some [] → Room k (A.deeper (envOfC qual (defScope st) s.heap.objs.size f cdv)) → sp vs H Q E →
      ∃ t, PSs (cxOf CX0 P w K mg base N qual (defScope st) f cdv A o s H E).nox (defBody st) t ∧ t { nx := fun _ H' => Q .non H', rt := Q } (start N vs) H) : FnG P w K mg base CX0 (k + 1) f fd ps sp := by
  obtain ⟨c1, c2, c3, c4, c5, c6, cdv, c7, c8, rfl, look, isCode⟩ := F.ex
  refine ⟨len, fun A o s H as us vs Q E gA room env bound vals promise => ?_⟩
  have many := len _ _ _ _ promise
  have inK : K.In s.heap := env.mod.kin.keeps fun b u e => (env.bs b u e).1
  have free : s.heap.NoLimit := env.mod.nolimit.keeps fun b u e => (env.bs b u e).1
  have kinds : ∀ y ∈ ps.zip us, (defScope st).names.lookup y.1 = some .local ∨ ((defScope st).names.lookup y.1 = some .cell ∧ ((cellsFrom (s.heap.objs.size + 1) (defScope st).names []).lookup y.1).isSome = true) := by
    rintro ⟨n, v⟩ hy
    exact (S.par n (List.of_mem_zip hy).1).imp id fun q => ⟨q, PySem.W.cellsFrom_some _ _ _ (.inl q)⟩
  apply codeAny_call_function room.depth (inK _ _ look) rfl S.co S.gen rfl (PySem.W.codeRec_of inK isCode)
  apply bound
  refine wpAny_newFunctionEnv_cells S.kind kinds fun en isEn s1 made => ?_
  subst isEn
  refine ⟨free.keeps made.toInCall.keep, codeAny_func ?_⟩
  obtain ⟨t, isT, reads⟩ := body cdv A o s H vs Q E gA (room.deeper _) promise
  have I := inv_start (CX := CX0) (P := P) (w := w) (K := K) (mg := mg) (base := base) (E := E) S room.hd env many vals made
  have done : ∀ {σ' : L2.St} {H' : Hp} {v : V} {u : Value} {s' : Shared}, Inv (cxOf CX0 P w K mg base N qual (defScope st) f cdv A o s H E) [] σ' H' s' → RelV v u → Q v H' → CE o P w H s Q u s' := fun J r q => ⟨_, _, J.os, J.bare, J.base, J.hok, r, q⟩
  refine wpAny_mono (isT.nox.run [] s1 (start N vs) H _ I reads) (fun flow s' ends => ?_) fun _ _ h => h
  match flow, ends with
  | .ret u, ⟨_, _, _, J, r, q⟩ => exact done J r q
  | .next, ⟨_, _, J, q⟩ => exact done (v := V.non) (u := Value.none) J rfl q
  | .brk, ⟨_, _, _, q⟩ => exact q.elim
  | .cont, ⟨_, _, _, q⟩ => exact q.elim
end
section
variable {X : Cx} {CX : CXT} {k : Nat} {f : Addr} {fd : FuncData} {ps ks : List Str} {sp : Sp} {dvs : List V} {ds : List Value} {E : XK} {x : Str} {p pos : Pos} {e : Expr} {es : List Expr} {t tk : TA} {kws : List Keyword}
  {g : List Value → List Value → List Value} {gV : List V → List V → List V}
theorem back {pins : List (Addr × Obj)} {σ : L2.St} {H : Hp} {s : Shared} {Q : VK} {as : Args} (hx : Passes CX X E) (I : Inv X pins σ H s)
    (h : codeAny (model X.prog X.w) X.A (.call (.ref f) as) (CR CX X.stack X.prog X.w H s Q E) s) : codeAny (model X.prog X.w) X.A (.call (.ref f) as) (fun r s' => match r with | .ok (.ret u) => EP X pins σ Q u s' | .ok _ => False | .error e => X.xe e s') s := by
  refine codeAny_mono h fun r s' q => ?_
  match r, q with
  | .error e, q => exact hx pins σ H s e s' I q
  | .ok (.ret u), q => exact I.after q
  | .ok .next, q => exact q.elim
  | .ok .brk, q => exact q.elim
  | .ok .cont, q => exact q.elim
theorem pe_callG (F : FnG X.prog X.w X.K X.mg X.base CX k f fd ps sp) (hr : Room k X.A) (hq : X.A.guards = some []) (hg : Gl X x) (hm : X.mg x = some (.ref f)) (hk : PySem.W.keepIn X.K (.ref f) = true) (hb : Binds X.K fd ps ds) (hd : Vals dvs ds) (hx : Passes CX X E)
    (ha : PA X (e :: es) t) (hdb : (x == ("__debug__" : Str)) = false := by decide) (he : starEach (e :: es) X.env = (false, eval e X.env) :: starEach es X.env := by rfl) (hpl : (backTo pos (starEach es X.env)).any (·.1) = false := by rfl) :
    PE X (.Call (.Name x p) (e :: es) [] pos) (tCall sp dvs E t) := ⟨fun pins s σ H Q I h => by
  apply wpAny_Call_Name_kw
  refine ld_glob I hg hm ?_ hdb
  refine PySem.W.callWith_K (h₀ := X.base) I.ok.mod.kin hk (thn (ha.run pos pins s σ H _ I h) fun us s1 r1 => ?_) he hpl
  obtain ⟨vs, H1, I1, rv, q⟩ := r1
  have all := rv.append hd
  refine ⟨I1.kIn, wpAny_call ?_⟩
  refine codeAny_mono (back hx I1 (F.go X.A X.stack s1 H1 ⟨us, []⟩ (us ++ ds) (vs ++ dvs) Q E hq hr I1.env0 (hb s1 us I1.kIn ?_) all q)) fun r s' z => ?_
  · rw [← all.length]
    exact F.len _ _ _ _ q
  · match r, z with
    | .error e, z => exact z
    | .ok (.ret u), z => exact z⟩
theorem run_keys {pins : List (Addr × Obj)} {σ : L2.St} {H : Hp} {s : Shared} {Q : VK} {us ws : List Value} {vs zs : List V} (F : FnG X.prog X.w X.K X.mg X.base CX k f fd ps sp) (hr : Room k X.A) (hq : X.A.guards = some []) (hb : KBinds X.K fd ps ks g gV) (hx : Passes CX X E)
    (I : L2.Inv X pins σ H s) (r : Vals vs us) (rz : Vals zs ws) (h : sp (gV vs zs) H Q E) : wpAny (model X.prog X.w) X.A (call (.ref f) us (ks.zip ws)) (EP X pins σ Q) X.xe s := by
  have all := hb.rel r rz
  refine wpAny_call (codeAny_mono (back hx I (F.go X.A X.stack s H ⟨us, ks.zip ws⟩ (g us ws) (gV vs zs) Q E hq hr I.env0 (hb.to s us ws I.kIn ?_) all h)) fun r s' z => ?_)
  · rw [← all.length]
    exact F.len _ _ _ _ h
  · match r, z with
    | .error e, z => exact z
    | .ok (.ret u), z => exact z
theorem pe_callKG (F : FnG X.prog X.w X.K X.mg X.base CX k f fd ps sp) (hr : Room k X.A) (hq : X.A.guards = some []) (hg : Gl X x) (hm : X.mg x = some (.ref f)) (hk : PySem.W.keepIn X.K (.ref f) = true) (hb : KBinds X.K fd ps ks g gV) (hx : Passes CX X E)
    (ha : PA X (e :: es) t) (hkw : PK X kws tk) (hall : (backToKw pos (keywordEach kws X.env)).all (·.1.isSome) = true := by rfl) (hks : (backToKw pos (keywordEach kws X.env)).filterMap (·.1) = ks := by rfl)
    (hdb : (x == ("__debug__" : Str)) = false := by decide) (he : starEach (e :: es) X.env = (false, eval e X.env) :: starEach es X.env := by rfl)
    (hpl : ((backTo pos (starEach (e :: es) X.env)).any (·.1) || (backToKw pos (keywordEach kws X.env)).any (·.1.isNone)) = false := by rfl) :
    PE X (.Call (.Name x p) (e :: es) kws pos) (tCallK sp gV E t tk) := ⟨fun pins s σ H Q I h => by
  apply wpAny_Call_Name_kw
  refine ld_glob I hg hm ?_ hdb
  refine PySem.W.callWith_KW (h₀ := X.base) I.ok.mod.kin hk hall (thn (ha.run pos pins s σ H _ I h) fun us s1 r1 => ?_) hpl he
  obtain ⟨vs, H1, I1, rv, q⟩ := r1
  refine thn (hkw.run pos pins s1 σ H1 _ I1 q) fun ws s2 r2 => ?_
  obtain ⟨zs, H2, I2, rz, q2⟩ := r2
  refine ⟨I2.kIn, ?_⟩
  rw [hks]
  exact run_keys F hr hq hb hx I2 rv rz q2⟩
theorem pe_callK0G (F : FnG X.prog X.w X.K X.mg X.base CX k f fd ps sp) (hr : Room k X.A) (hq : X.A.guards = some []) (hg : Gl X x) (hm : X.mg x = some (.ref f)) (hk : PySem.W.keepIn X.K (.ref f) = true) (hb : KBinds X.K fd ps ks g gV) (hx : Passes CX X E)
    (hkw : PK X kws tk) (hall : (backToKw pos (keywordEach kws X.env)).all (·.1.isSome) = true := by rfl) (hks : (backToKw pos (keywordEach kws X.env)).filterMap (·.1) = ks := by rfl)
    (hdb : (x == ("__debug__" : Str)) = false := by decide)
    (hpl : ((backTo pos (starEach [] X.env)).any (·.1) || (backToKw pos (keywordEach kws X.env)).any (·.1.isNone)) = false := by rfl) :
    PE X (.Call (.Name x p) [] kws pos) (Rx.tCallK0 sp gV E tk) := ⟨fun pins s σ H Q I h => by
  apply wpAny_Call_Name_kw
  refine ld_glob I hg hm ?_ hdb
  refine PySem.W.callWith_KW0 (h₀ := X.base) I.ok.mod.kin hk hall (thn (hkw.run pos pins s σ H _ I h) fun ws s2 r2 => ?_) hpl
  obtain ⟨zs, H2, I2, rz, q2⟩ := r2
  refine ⟨I2.kIn, ?_⟩
  rw [hks]
  exact run_keys (us := []) (vs := []) F hr hq hb hx I2 .nil rz q2⟩
theorem pe_call0G (F : FnG X.prog X.w X.K X.mg X.base CX k f fd ps sp) (hr : Room k X.A) (hq : X.A.guards = some []) (hg : Gl X x) (hm : X.mg x = some (.ref f)) (hk : PySem.W.keepIn X.K (.ref f) = true) (hb : Binds X.K fd ps ds) (hd : Vals dvs ds) (hx : Passes CX X E)
    (hdb : (x == ("__debug__" : Str)) = false := by decide) : PE X (.Call (.Name x p) [] [] pos) (tCall sp dvs E tNil) := ⟨fun pins s σ H Q I h => by
  apply wpAny_Call_Name_kw
  refine ld_glob I hg hm ?_ hdb
  refine PySem.W.callWith_K0 I.kIn hk (wpAny_call ?_)
  have h' : sp ([] ++ dvs) H Q E := h
  refine codeAny_mono (back hx I (F.go X.A X.stack s H ⟨[], []⟩ ([] ++ ds) ([] ++ dvs) Q E hq hr I.env0 (hb s [] I.kIn ?_) hd h')) fun r s' z => ?_
  · rw [← (show Vals ([] ++ dvs) ([] ++ ds) from hd).length]
    exact F.len _ _ _ _ h'
  · match r, z with
    | .error e, z => exact z
    | .ok (.ret u), z => exact z⟩
/-! ### repr -/
mutual
theorem dp_plain {K : PySem.W.Frag} {H : Hp} : ∀ {v : V} {d : PyData}, Dp K H v d → d.hasDict = false
  | _, _, .non => rfl
  | _, _, .bl _ => rfl
  | _, _, .int _ => rfl
  | _, _, .str _ => rfl
  | _, _, .lst _ h => by
    simp only [PyData.hasDict]
    exact dpAll_plain h
  | _, _, .tup _ h => by
    simp only [PyData.hasDict]
    exact dpAll_plain h
theorem dpAll_plain {K : PySem.W.Frag} {H : Hp} : ∀ {vs : List V} {ds : List PyData}, DpAll K H vs ds → PyData.hasDictAll ds = false
  | _, _, .nil => rfl
  | _, _, .cons a b => by
    simp only [PyData.hasDictAll, dp_plain a, dpAll_plain b, Bool.or_self]
end
def rRepr (K : PySem.W.Frag) : List V → Hp → VK → Prop := fun xs H Q => ∃ x d, xs = [x] ∧ Dp K H x d ∧ d.showable = true ∧ d.shown.length ≤ sizeLine ∧ d.depth ≤ 60 ∧ Q (.str d.shown) H
theorem cr_repr (hq : X.A.guards = some []) (hu : X.A.units + 64 < cLine) : CallR X (.builtin "repr") (rRepr X.K) := by
  intro pins s σ H xs us Q I r h
  obtain ⟨x, d, rfl, hd, hs, hz, h6, q⟩ := h
  obtain ⟨u, rfl, rx⟩ := vals1 r
  obtain ⟨as, rd⟩ := Dp.reads I d x u hd rx
  have np := dp_plain hd
  have out : ∀ h' tk tk', (∀ b o, s.heap.get? b = some o → h'.get? b = some o) → EP X pins σ Q (.str d.shown tk) { s with heap := h', toks := tk' } := fun h' tk tk' hk => ⟨.str d.shown, H, I.kept hk, ⟨tk, rfl⟩, q⟩
  have out0 : ∀ tk tk', EP X pins σ Q (.str d.shown tk) { s with toks := tk' } := fun tk tk' => ⟨.str d.shown, H, I.tok _, ⟨tk, rfl⟩, q⟩
  cases hd with
  | non => cases (show u = Value.none from rx); exact PySem.P.repr_of_none (out0 _ _)
  | bl b => cases (show u = Value.bool b from rx); exact PySem.P.repr_of_bool (out0 _ _)
  | int i =>
    obtain ⟨t, rfl⟩ := (show ∃ t, u = Value.int i t from rx)
    exact PySem.P.repr_of_int (of_decide_eq_true (by simpa only [PyData.showable] using hs)) (out0 _ _)
  | str z =>
    obtain ⟨t, rfl⟩ := (show ∃ t, u = Value.str z t from rx)
    exact PySem.P.repr_of_str (out0 _ _) hz
  | lst a b =>
    cases (show u = Value.ref _ from rx)
    exact repr_of_reads' rd hs (fun e => by rw [np] at e; cases e) hq (by omega) (fun _ _ e => e) (fun h' u tk hk => out h' u tk hk) hz
  | tup a b =>
    cases (show u = Value.ref _ from rx)
    exact repr_of_reads' rd hs (fun e => by rw [np] at e; cases e) hq (by omega) (fun _ _ e => e) (fun h' u tk hk => out h' u tk hk) hz
end
end Gx
set_option Elab.async false
set_option linter.all false
set_option maxRecDepth 100000
set_option maxHeartbeats 4000000
/-! Gx2: the end of a law whose promise holds where no repr is under way -/
namespace Gx
open PySem PySem.Spec PyProof.Rows L2
section
variable {P : Program} {w : World} {K : PySem.W.Frag} {mg mb : Str → Option Value} {a : Addr} {s : Shared} {vs : List Value} {ns : List Int}
/-- the state behind the top as the one at the law's call, with the script alone to be seen -/
theorem first_env {H : Hp} (inK : K.In s.heap) (names : s.heap.Ns mainGlobals mg) (bn : s.heap.Ns builtinsNs mb) (boot : ∀ x : Str, x ≠ "__name__" → mb x = bootBuiltins x) (free : s.heap.NoLimit) (none : s.gens = #[])
    (script : s.heap.get? a = some { cls := .type "list", data := .seq vs.toArray }) (ok : HOk P w H s.heap) (just : ∀ b, H b ≠ Option.none → b = a) (own : H a ≠ Option.none → K.lookup a = Option.none) :
    ∃ base : Heap, K.In base ∧ base.Ns mainGlobals mg ∧ Env0 P w K mg base callerA [] s H := by
  have unseen : ∀ {b : Addr} {u : Obj} {es : Array DictEntry} {ep : Nat}, s.heap.get? b = some u → u.data = .dict es ep → H b = Option.none := by
    intro b u es ep at_b isDict
    by_cases z : H b = Option.none
    · exact z
    · have eq := just b z
      rw [eq] at at_b
      rw [script] at at_b
      obtain rfl := Option.some.inj at_b
      exact Data.noConfusion isDict
  have space : ∀ {b : Addr} {m : Str → Option Value}, s.heap.Ns b m → (hidT s.heap H).Ns b m := by
    rintro b m ⟨u, es, ep, at_b, isDict, more⟩
    exact ⟨u, es, ep, hidT_get at_b (unseen at_b isDict), isDict, more⟩
  have inBase : K.In (hidT s.heap H) := by
    intro b u at_b
    refine hidT_get (inK b u at_b) ?_
    by_cases z : H b = Option.none
    · exact z
    · have eq := just b z
      rw [eq] at at_b z
      rw [own z] at at_b
      cases at_b
  obtain ⟨mc, c1, c2⟩ := free
  refine ⟨hidT s.heap H, inBase, space names, rfl, ⟨inBase, space names, ⟨mb, space bn, boot⟩, ⟨mc, space c1, c2⟩⟩, fun b u at_b => of_hidT at_b, Nat.le_of_eq (hidT_size _ _), trivial, fun b hb => ?_, ok, .of_eq none⟩
  exact absurd (show b ∈ ([] : List Addr) from hb) (by simp)
/-- the call of the law -/
theorem law_run {CX : CXT} {k : Nat} {fa : Addr} {fd : FuncData} {x : Str} {sp : Sp} (inK : K.In s.heap) (names : s.heap.Ns mainGlobals mg) (bn : s.heap.Ns builtinsNs mb) (boot : ∀ x : Str, x ≠ "__name__" → mb x = bootBuiltins x) (free : s.heap.NoLimit) (none : s.gens = #[])
    (script : s.heap.get? a = some { cls := .type "list", data := .seq vs.toArray }) (whole : IntsAre vs ns) (few : ns.length ≤ sizeLine) (room : Room k callerA)
    (F : ∀ base : Heap, K.In base → base.Ns mainGlobals mg → FnG P w K mg base CX k fa fd [x] sp) (bound : ∀ (s : Shared) (u : Value), BindsTo s fd ⟨[u], []⟩ [(x, u)])
    (start : ∀ H : Hp, Only H → SqL K H a (ns.map V.int) → sp [.ref a] H (fun v _ => v = .bl true) fun _ _ _ => False) (quiet : ∀ H e s', CX [] H s (fun _ _ _ => False) e s' → False) :
    codeAny (model P w) callerA (.call (.ref fa) ⟨[.ref a], []⟩) (fun r s' => r = .ok (.ret (.bool true)) ∧ OldK s.heap s'.heap ∧ s'.os = s.os ∧ AllBare s'.gens) s := by
  have vals := vals_ints whole
  have size := whole.length
  have go : ∀ H : Hp, Only H → SqL K H a (ns.map V.int) → HOk P w H s.heap → (∀ b, H b ≠ Option.none → b = a) → (H a ≠ Option.none → K.lookup a = Option.none) →
      codeAny (model P w) callerA (.call (.ref fa) ⟨[.ref a], []⟩) (fun r s' => r = .ok (.ret (.bool true)) ∧ OldK s.heap s'.heap ∧ s'.os = s.os ∧ AllBare s'.gens) s := by
    intro H only seen ok just own
    obtain ⟨base, b1, b2, env⟩ := first_env (P := P) (w := w) inK names bn boot free none script ok just own
    refine codeAny_mono ((F base b1 b2).go callerA [] s H ⟨[.ref a], []⟩ [.ref a] [.ref a] _ _ rfl room env (bound s (.ref a)) (.cons rfl .nil) (start H only seen)) fun r s' h => ?_
    match r, h with
    | .error e, h => exact (quiet H e s' h).elim
    | .ok .next, h => exact h.elim
    | .ok .brk, h => exact h.elim
    | .ok .cont, h => exact h.elim
    | .ok (.ret u), ⟨v, H', os, bare, un, ok', rel, is_yes⟩ =>
      subst is_yes
      have eu : u = Value.bool true := rel
      subst eu
      refine ⟨rfl, OldK.of_keep ?_, os, bare⟩
      intro b ob at_b
      rcases only b with free_b | ⟨o2, xs, at_H⟩
      · exact un.keep b ob at_b free_b (fun z => absurd (show b ∈ ([] : List Addr) from z) (by simp)) (by simp)
      · have later := (ok' b _ (un.frzs b o2 _ at_H)).1
        have before := (ok b _ at_H).1
        rw [at_b] at before
        obtain rfl := Option.some.inj before
        exact later
  cases written : K.lookup a with
  | some o =>
    have same := inK a o written
    rw [script] at same
    obtain rfl := Option.some.inj same
    refine go (fun _ => Option.none) (fun _ => .inl rfl) (.inr ⟨_, vs.toArray, _, written, rfl, rfl, rfl, ?_, ?_⟩) ?_ ?_ ?_
    · rw [List.size_toArray, size]
      exact few
    · simpa using vals
    · intro b u z
      have z' : (Option.none : Option HO) = some u := z
      cases z'
    · exact fun b z => absurd rfl z
    · exact fun z => absurd rfl z
  | none =>
    let the : HO := .frz { cls := .type "list", data := .seq vs.toArray } (.lst (ns.map V.int))
    have yes : (fun b => if b = a then some the else Option.none) a = some the := if_pos rfl
    refine go (fun b => if b = a then some the else Option.none) ?_ (.inl (.inr ⟨_, yes⟩)) ?_ ?_ (fun _ => written)
    · intro b
      by_cases e : b = a
      · exact .inr ⟨_, _, if_pos e⟩
      · exact .inl (if_neg e)
    · intro b u z
      by_cases e : b = a
      · subst e
        obtain rfl := Option.some.inj (yes.symm.trans z)
        exact ⟨script, by rw [List.length_map]; exact few, vs, _, vals, script⟩
      · have z' : (if b = a then some the else Option.none) = some u := z
        rw [if_neg e] at z'
        cases z'
    · intro b z
      by_cases e : b = a
      · exact e
      · exact absurd (if_neg e) z
end
/-- what k_head leaves, from such a promise -/
theorem walk_ofG {l : PySem.W.OpenLaw} {n k : Nat} {q : Program} {loose : List Str} {XP : (Str → Option Value) → Heap → Prop} {YP : World → Heap → Prop} {d : DefRec} {K : Params → PySem.W.Frag} {x : Str} {sp : World → Sp}
    (hn : l.most = some n) (hn2 : n ≤ sizeLine) (hdf : d.params.defaults = []) (room : Room k callerA) (hY : ∀ (w : World) (h : Heap), YP w h → (K w.params).In h)
    (F : ∀ (w : World) (mg : Str → Option Value) (fa : Addr) (h : Heap), (K w.params).In h → h.Ns mainGlobals mg → mg d.name = some (.ref fa) →
      ∃ fd : FuncData, (∀ (s : Shared) (u : Value), BindsTo s fd ⟨[u], []⟩ [(x, u)]) ∧ ∀ base : Heap, (K w.params).In base → base.Ns mainGlobals mg → FnG l.prog w (K w.params) mg base CX0 k fa fd [x] (sp w))
    (start : ∀ (w : World) (H : Hp) (a : Addr) (ns : List Int), ns.length ≤ n → Only H → SqL (K w.params) H a (ns.map V.int) → sp w [.ref a] H (fun v _ => v = .bl true) fun _ _ _ => False) :
    PySem.W.WalkO q loose XP YP l.row.toRowW d [] (fun f vs => PySem.call f vs) := by
  refine Att.attach_call hn hdf fun w _ s₁ mg mb fa _ _ _ _ a vs ns ground y _ _ _ named script whole few none => ?_
  obtain ⟨fd, bound, all⟩ := F w mg fa _ (hY w _ y) ground.T.g named
  exact law_run (hY w _ y) ground.T.g ground.T.b ground.T.builtins ground.T.nolimit none script whole (Nat.le_trans few hn2) room all bound (fun H only seen => start w H a ns few only seen) fun _ _ _ h => h
end Gx
set_option Elab.async false
set_option linter.all false
set_option maxRecDepth 100000
set_option maxHeartbeats 4000000
namespace Bx
open PySem PySem.Spec PyProof.Rows L2 Evl PySem.StrLaws
theorem occ_full (s sub : Str) (hi : Nat) : ∀ (l : List Nat) (st : Array Nat × Nat), 1 ≤ st.fst.size → (forIn l st (occBody s sub hi 1)).run.fst = st.fst
  | [], st, _ => rfl
  | a :: l, st, h => by
    rw [List.forIn_cons]
    unfold occBody
    rw [if_neg (fun z => by
      have := z.1.1.1
      omega)]
    exact occ_full s sub hi l _ h
theorem occ_hit (s sub : Str) (hi k : Nat) (post : List Nat) (hk : k + sub.length ≤ hi ∧ Builtin.Str.subAt s sub k = true) : ∀ (pre : List Nat) (free : Nat), (∀ i ∈ pre ++ k :: post, free ≤ i) →
    (∀ i ∈ pre, ¬ (i + sub.length ≤ hi ∧ Builtin.Str.subAt s sub i = true)) → (forIn (pre ++ k :: post) ((#[] : Array Nat), free) (occBody s sub hi 1)).run.fst = #[k]
  | [], free, hf, _ => by
    rw [List.nil_append, List.forIn_cons]
    unfold occBody
    rw [if_pos ⟨⟨⟨by simp, hf k (by simp)⟩, hk.1⟩, hk.2⟩]
    exact occ_full s sub hi post _ (by simp)
  | a :: pre, free, hf, hn => by
    rw [List.cons_append, List.forIn_cons]
    unfold occBody
    rw [if_neg (fun z => hn a (by simp) ⟨z.1.2, z.2⟩)]
    exact occ_hit s sub hi k post hk pre free (fun i hi' => hf i (by rw [List.cons_append]; exact List.mem_cons_of_mem _ hi')) fun i hi' => hn i (List.mem_cons_of_mem _ hi')
/-- where a letter stands first -/
theorem index_one {L : List Nat} {c k : Nat} (hk : L[k]? = some c) (hn : ∀ j, j < k → L[j]? ≠ some c) : Builtin.Str.occurrences (mk L) (mk [c]) 0 (mk L).length 1 = [k] := by
  rw [occ_eq]
  have lt : k < L.length := (List.getElem?_eq_some_iff.mp hk).1
  have e : List.range' 0 ((mk L).length + 1 - 0) = List.range' 0 k ++ k :: List.range' (k + 1) (L.length - k) := by
    rw [mk_len, Nat.sub_zero]
    have e1 : L.length + 1 = k + (1 + (L.length - k)) := by omega
    rw [e1, ← List.range'_append_1, Nat.zero_add, Nat.add_comm 1, List.range'_succ]
  rw [e, occ_hit (mk L) (mk [c]) (mk L).length k _ ((subAt_one (mk L) c k).mpr hk) _ 0 (fun _ _ => Nat.zero_le _) fun i hi z => ?_]
  have := (subAt_one (mk L) c i).mp z
  refine hn i ?_ this
  have := List.mem_range'_1.mp hi
  omega
theorem lower_low {l : List Nat} (h : Low l) : Txt.lower (mk l) = mk l := by
  rw [lower_ascii fun c hc => by
    have := h c hc
    omega]
  have e : (mk l).cps.map lo1 = (mk l).cps := by
    apply Array.ext'
    rw [Array.toList_map]
    show l.map lo1 = l
    conv => rhs; rw [← List.map_id l]
    apply List.map_congr_left
    intro c hc
    have := h c hc
    unfold lo1
    rw [if_neg (by omega)]
    rfl
  rw [e]
end Bx
set_option Elab.async false
set_option linter.all false
set_option maxRecDepth 100000
set_option maxHeartbeats 4000000
namespace Bx
open PySem PySem.Spec PyProof.Rows L2 Evl
theorem joinL_nil : ∀ ps : List (List Nat), TL.joinL [] ps = ps.flatten
  | [] => rfl
  | [p] => by simp [TL.joinL]
  | p :: q :: r => by
    show p ++ ([] ++ TL.joinL [] (q :: r)) = _
    rw [joinL_nil (q :: r)]
    rfl
theorem join_mk (ps : List (List Nat)) : Txt.join (mk []) (ps.map mk) = mk ps.flatten := by
  rw [TL.join_eq]
  have h := TL.tl_join (mk []) (ps.map mk)
  rw [List.map_map] at h
  have e : (ps.map (TL.tl ∘ mk)) = ps := by
    conv => rhs; rw [← List.map_id ps]
    exact List.map_congr_left fun _ _ => rfl
  rw [e] at h
  have h2 : TL.tl (Str.join (mk []) (ps.map mk)) = ps.flatten := by
    rw [h]
    exact joinL_nil ps
  rw [mk_eq (Str.join (mk []) (ps.map mk))]
  exact congrArg mk h2
theorem sing_flat (t : List Nat) : (t.map fun c => [c]).flatten = t := by
  induction t with
  | nil => rfl
  | cons c t ih => simp only [List.map_cons, List.flatten_cons, ih]; rfl
theorem join_signs (t : List Nat) : Txt.join (mk []) (t.map fun c => mk [c]) = mk t := by
  have h := join_mk (t.map fun c => [c])
  rw [List.map_map, sing_flat] at h
  exact h
theorem len_signs (t : List Nat) : ((t.map fun c => mk [c]).map (·.length)).sum = t.length := by
  induction t with
  | nil => rfl
  | cons c t ih =>
    simp only [List.map_cons, List.sum_cons, List.length_cons, ih]
    rw [mk_len]
    simp
    omega
/-! ### the draws of a law -/
/-- a generator's list: what is left of a great seed, the small one, the number of draws, at most n -/
def Gen (H : Hp) (g : Addr) (n : Nat) : Prop := ∃ b s c : Int, H g = some (.lst [.int b, .int s, .int c]) ∧ 0 ≤ b ∧ b < 2 ^ 3000 ∧ 0 ≤ s ∧ s < 2147483647 ∧ 0 ≤ c ∧ c ≤ n
theorem Gen.ex {H H' : Hp} {g : Addr} {n : Nat} (h : Gen H g n) (e : Ex H H') : Gen H' g n := let ⟨b, s, c, h1, r⟩ := h; ⟨b, s, c, e _ _ h1, r⟩
theorem Gen.up {H : Hp} {g : Addr} {n m : Nat} (h : Gen H g n) (e : n ≤ m) : Gen H g m := let ⟨b, s, c, h1, h2, h3, h4, h5, h6, h7⟩ := h; ⟨b, s, c, h1, h2, h3, h4, h5, h6, by omega⟩
theorem Gen.there {H : Hp} {g : Addr} {n : Nat} (h : Gen H g n) : H g ≠ none := fun e => by
  obtain ⟨b, s, c, h1, _⟩ := h
  rw [h1] at e
  cases e
theorem Gen.ne {H : Hp} {g p : Addr} {n : Nat} (h : Gen H g n) (e : H p = none) : g ≠ p := fun z => h.there (by rw [z]; exact e)
theorem Gen.oth {H : Hp} {g p : Addr} {n : Nat} {o : HO} (h : Gen H g n) (e : g ≠ p) : Gen (upd H p o) g n := let ⟨b, s, c, h1, r⟩ := h; ⟨b, s, c, by rw [upd_ne e]; exact h1, r⟩
theorem bits_le {i : Int} {n : Nat} (h0 : 0 < n) (h : i.natAbs < 2 ^ n) : Builtin.Int.intBits i ≤ n := by
  unfold Builtin.Int.intBits
  split
  · omega
  · have := PySem.Flt.log2_lt_of h0 h
    omega
theorem mid_abs {i : Int} (h : i.natAbs < 2 ^ 200) : i.natAbs < 2 ^ 9000 := Nat.lt_of_lt_of_le h (Nat.pow_le_pow_right (by decide) (by decide))
theorem Xg.ne {g : Addr} {H H' : Hp} {p : Addr} {o : HO} (e : Xg g H H') (h : H p = some o) (n : p ≠ g) : H' p = some o := e p o n h
theorem Xg.mut {g : Addr} {H H' : Hp} {p : Addr} {o : HO} (e : Xg g H H') (h : H p = none) : Xg g H (L2.upd H' p o) := fun a u n ha => by
  rw [upd_ne (ne_of_none ha h)]
  exact e a u n ha
theorem Xg.ex {g : Addr} {H H1 H2 : Hp} (a : Xg g H H1) (b : Ex H1 H2) : Xg g H H2 := a.trans (Xg.of b)
end Bx
set_option Elab.async false
set_option linter.all false
set_option maxRecDepth 100000
set_option maxHeartbeats 4000000
/-! Dx: data that are compared, by short words -/
namespace Dx
open PySem PySem.Spec PyProof.Rows L2 Evl Bx
abbrev dT (ts : List (List Nat)) : PyData := .list (ts.map fun t => .str (mk t))
abbrev dI (ns : List Int) : PyData := .list (ns.map .int)
abbrev uT (ts : List (List Nat)) : PyData := .tuple (ts.map fun t => .str (mk t))
abbrev uI (ns : List Int) : PyData := .tuple (ns.map .int)
section
variable {K : PySem.W.Frag} {H : Hp} {p : Addr}
theorem dpAll_txs : ∀ ts : List (List Nat), DpAll K H (ts.map tx) (ts.map fun t => .str (mk t))
  | [] => .nil
  | t :: ts => .cons (.str _) (dpAll_txs ts)
theorem dp_txs {ts : List (List Nat)} (h : H p = some (.lst (ts.map tx))) : Dp K H (.ref p) (dT ts) := .lst (.inl (.inl h)) (dpAll_txs ts)
theorem dp_ints {ns : List Int} (h : H p = some (.lst (ns.map V.int))) : Dp K H (.ref p) (dI ns) := .lst (.inl (.inl h)) (dpAll_ints ns)
theorem dp_utxs {ts : List (List Nat)} (h : H p = some (.tup (ts.map tx))) : Dp K H (.ref p) (uT ts) := .tup (.inl (.inl h)) (dpAll_txs ts)
theorem dp_uints {ns : List Int} (h : H p = some (.tup (ns.map V.int))) : Dp K H (.ref p) (uI ns) := .tup (.inl (.inl h)) (dpAll_ints ns)
end
theorem sh_txs {ts : List (List Nat)} (h : ∀ t ∈ ts, Low t) : SeqAt.shaped (dT ts) = true := (flat_shaped _ fun d hd => by
  obtain ⟨n, hn, rfl⟩ := List.mem_map.mp hd
  exact ⟨str_ok (h n hn), rfl⟩).1
theorem sh_ints (ns : List Int) : SeqAt.shaped (dI ns) = true := shaped_ints ns
theorem sh_utxs {ts : List (List Nat)} (h : ∀ t ∈ ts, Low t) : SeqAt.shaped (uT ts) = true := (flat_shaped _ fun d hd => by
  obtain ⟨n, hn, rfl⟩ := List.mem_map.mp hd
  exact ⟨str_ok (h n hn), rfl⟩).2
theorem sh_uints (ns : List Int) : SeqAt.shaped (uI ns) = true := (flat_shaped _ fun d hd => by
  obtain ⟨n, hn, rfl⟩ := List.mem_map.mp hd
  exact ⟨rfl, rfl⟩).2
theorem eq_self {d : PyData} (h : SeqAt.shaped d = true) : V.bl (PyData.eqv d d) = V.bl true := by rw [SeqAt.eqv_refl d (SeqAt.canLay_of_shaped h)]
theorem ne_self {d : PyData} (h : SeqAt.shaped d = true) : V.bl (!PyData.eqv d d) = V.bl false := by rw [SeqAt.eqv_refl d (SeqAt.canLay_of_shaped h)]; rfl
theorem eqv_txs : ∀ ts us : List (List Nat), PyData.eqvAll (ts.map fun t => .str (mk t)) (us.map fun t => .str (mk t)) = decide (ts = us)
  | [], [] => by simp [PyData.eqvAll]
  | [], _ :: _ => by simp [PyData.eqvAll]
  | _ :: _, [] => by simp [PyData.eqvAll]
  | n :: ns, m :: ms => by
    show ((mk n == mk m) && PyData.eqvAll (ns.map fun t => .str (mk t)) (ms.map fun t => .str (mk t))) = _
    rw [eqv_txs ns ms]
    by_cases h1 : n = m <;> by_cases h2 : ns = ms <;> simp [h1, h2, mk_inj]
end Dx
namespace Dx
open PySem PySem.Spec PyProof.Rows L2 Evl Bx
theorem sIx_neg1 (n d : Nat) : HT.sIx (n + 1) d (some (0 - 1)) = n := by
  show (if (0 - 1 : Int) < 0 then ((0 - 1 : Int) + ((n + 1 : Nat) : Int)).toNat else min (0 - 1 : Int).toNat (n + 1)) = n
  rw [if_pos (by decide)]
  omega
theorem cut_but_last (xs : List V) (y : V) : cutV (xs ++ [y]) none (some (0 - 1)) = xs := by
  unfold cutV
  rw [HT.sIx_none, List.drop_zero, List.length_append]
  show List.take (HT.sIx (xs.length + 1) _ _ - 0) _ = _
  rw [sIx_neg1, Nat.sub_zero, List.take_append_of_le_length (Nat.le_refl _), List.take_of_length_le (Nat.le_refl _)]
end Dx
set_option Elab.async false
set_option linter.all false
set_option maxRecDepth 100000
set_option maxHeartbeats 4000000
namespace Bx
open PySem PySem.Spec PyProof.Rows L2 Evl
theorem fold_rep (a : List Nat) : ∀ (k : Nat) (acc : Array Nat), (List.replicate k a.toArray).foldl (· ++ ·) acc = (acc.toList ++ (List.replicate k a).flatten).toArray
  | 0, acc => by simp
  | k + 1, acc => by
    rw [List.replicate_succ, List.foldl_cons, fold_rep a k, List.replicate_succ, List.flatten_cons]
    simp
theorem mul_mk (l : List Nat) (k : Nat) : Txt.mul (mk l) (k : Nat) = mk (List.replicate k l).flatten := by
  unfold Txt.mul
  by_cases h : (k : Int) < 1
  · have e : k = 0 := by omega
    subst e
    rfl
  · rw [if_neg h]
    split
    · rename_i c
      rw [Bool.or_eq_true, beq_iff_eq, beq_iff_eq] at c
      rcases c with c | c
      · have e : k = 1 := by omega
        subst e
        simp
      · have e : l = [] := List.eq_nil_of_length_eq_zero (by rw [mk_len] at c; exact c)
        subst e
        have : ∀ k, (List.replicate k ([] : List Nat)).flatten = [] := by
          intro k
          induction k with
          | zero => rfl
          | succ k ih => rw [List.replicate_succ, List.flatten_cons, ih]; rfl
        rw [this]
    · rw [Int.toNat_natCast, fold_rep]
      rfl
/-- x * k of a text -/
def rRepS : R2 := fun x y H Q => ∃ (l : List Nat) (k : Nat), x = tx l ∧ y = .int (k : Nat) ∧ l.length * k ≤ 100000 ∧ k ≤ 100000 ∧ Q (tx (List.replicate k l).flatten) H
theorem op_repS {X : Cx} : OpR X (binaryOp .Mult) rRepS := by
  intro pins s σ H x y v u Q I rx ry h
  obtain ⟨l, k, rfl, rfl, h1, h2, q⟩ := h
  obtain ⟨t, rfl⟩ := rx
  obtain ⟨t', rfl⟩ := ry
  have ok : MulOk (mk l) (k : Nat) := by
    refine ⟨?_, fun a b => ?_, fun a b => ?_⟩
    · rw [decide_eq_false (by omega), decide_eq_false (by omega)]
      rfl
    · rw [mk_len]
      have hp : (0 : Int) < (k : Nat) := by omega
      have q1 : ((l.length : Int)) * (k : Nat) ≤ 2 ^ 63 - 1 := by
        have : ((l.length * k : Nat) : Int) ≤ 100000 := by omega
        rw [Int.natCast_mul] at this
        omega
      have := Int.le_ediv_of_mul_le hp q1
      omega
    · rw [mk_len, Int.toNat_natCast]
      show decide (_ > sizeLine) = false
      refine decide_eq_false ?_
      have : sizeLine ≥ 100000 := by decide
      omega
  refine SB.mul ok fun t2 k2 => ⟨.str (Txt.mul (mk l) (k : Nat)), H, I.tok _, ⟨t2, rfl⟩, ?_⟩
  rw [mul_mk]
  exact q
/-- the last places of a text, whether or not it has any -/
theorem cut_last (u : List Nat) : cutS (mk u) (some ((u.length : Int) - 1)) none = mk (u.drop (u.length - 1)) := by
  by_cases h : u = []
  · subst h
    rfl
  · have hl := List.length_pos_iff.mpr h
    have e : (u.length : Int) - 1 = ((u.length - 1 : Nat) : Int) := by omega
    rw [e, cut_from]
theorem cut_init (u : List Nat) : cutS (mk u) none (some ((u.length : Int) - 1)) = mk (u.take (u.length - 1)) := by
  by_cases h : u = []
  · subst h
    rfl
  · have hl := List.length_pos_iff.mpr h
    have e : (u.length : Int) - 1 = ((u.length - 1 : Nat) : Int) := by omega
    rw [e, cut_to]
theorem rep_two (c : Nat) : (List.replicate 2 [c]).flatten = [c, c] := rfl
end Bx
namespace Bx
open PySem PySem.Spec PyProof.Rows L2 Evl
/-- all but one object as before, and that one still there -/
def Xh (g : Addr) (H H' : Hp) : Prop := Xg g H H' ∧ H' g ≠ none
theorem Xh.ex {g : Addr} {H H1 H2 : Hp} (a : Xh g H H1) (b : Ex H1 H2) : Xh g H H2 := ⟨a.1.ex b, fun z => by
  cases q : H1 g with
  | none => exact a.2 q
  | some o =>
    rw [b g o q] at z
    cases z⟩
theorem Xh.mut {g : Addr} {H H' : Hp} {p : Addr} {o : HO} (e : Xh g H H') (h : H p = none) : Xh g H (L2.upd H' p o) := ⟨e.1.mut h, fun z => by
  by_cases q : g = p
  · rw [q, upd_same] at z
    cases z
  · rw [upd_ne q] at z
    exact e.2 z⟩
theorem Xh.fresh {g : Addr} {H H' : Hp} (e : Xh g H H') {p : Addr} (h : H' p = none) : H p = none := e.1.fresh e.2 h
theorem Xg.gen {g : Addr} {H H' : Hp} {n : Nat} (e : Xg g H H') (h : Gen H' g n) : Xh g H H' := ⟨e, h.there⟩
end Bx
set_option linter.all false
/-! Mx: counts of words in texts: the mathematics, over lists of signs -/
namespace Mx
def cnt : List Nat → List Nat → Nat
  | [], _ => 1
  | _ :: _, [] => 0
  | a :: w, b :: t => cnt (a :: w) t + if a = b then cnt w t else 0
theorem cnt_nil (t : List Nat) : cnt [] t = 1 := by cases t <;> rfl
theorem cnt_e (a : Nat) (w : List Nat) : cnt (a :: w) [] = 0 := rfl
theorem cnt_c (a b : Nat) (w t : List Nat) : cnt (a :: w) (b :: t) = cnt (a :: w) t + if a = b then cnt w t else 0 := by rw [cnt]
theorem cnt_empty : ∀ w : List Nat, w ≠ [] → cnt w [] = 0
  | [], h => absurd rfl h
  | _ :: _, _ => rfl
theorem cnt_snoc : ∀ (p u : List Nat) (a c : Nat), cnt (u ++ [a]) (p ++ [c]) = cnt (u ++ [a]) p + if a = c then cnt u p else 0
  | [], [], a, c => by
    show cnt [a] [c] = cnt [a] [] + if a = c then cnt [] [] else 0
    rw [cnt_c]
  | [], x :: u, a, c => by
    show cnt (x :: (u ++ [a])) [c] = cnt (x :: (u ++ [a])) [] + if a = c then cnt (x :: u) [] else 0
    rw [cnt_c, cnt_e, cnt_e, cnt_empty (u ++ [a]) (by simp)]
    simp
  | b :: p, [], a, c => by
    have ih := cnt_snoc p [] a c
    show cnt [a] (b :: (p ++ [c])) = cnt [a] (b :: p) + if a = c then cnt [] (b :: p) else 0
    simp only [List.nil_append] at ih
    rw [cnt_c, ih, cnt_c]
    simp only [cnt_nil]
    omega
  | b :: p, x :: u, a, c => by
    have i1 := cnt_snoc p (x :: u) a c
    have i2 := cnt_snoc p u a c
    show cnt (x :: (u ++ [a])) (b :: (p ++ [c])) = cnt (x :: (u ++ [a])) (b :: p) + if a = c then cnt (x :: u) (b :: p) else 0
    simp only [List.cons_append] at i1
    rw [cnt_c, i1, cnt_c, cnt_c, i2]
    by_cases h1 : x = b <;> by_cases h2 : a = c <;> simp [h1, h2] <;> omega
theorem cnt_rev : ∀ (t w : List Nat), cnt w.reverse t.reverse = cnt w t
  | [], [] => rfl
  | [], a :: w => by
    rw [cnt_e]
    exact cnt_empty _ (by simp)
  | b :: t, [] => by rw [List.reverse_nil, cnt_nil, cnt_nil]
  | b :: t, a :: w => by
    rw [List.reverse_cons, List.reverse_cons, cnt_snoc, cnt_rev t w, ← List.reverse_cons, cnt_rev t (a :: w), cnt_c]
/-- the ways to cut a word in two -/
def splits : List Nat → List (List Nat × List Nat)
  | [] => [([], [])]
  | a :: w => ([], a :: w) :: (splits w).map fun p => (a :: p.1, p.2)
theorem sum_map_add {α : Type} (f g : α → Nat) : ∀ l : List α, (l.map fun x => f x + g x).sum = (l.map f).sum + (l.map g).sum
  | [] => rfl
  | x :: l => by
    simp only [List.map_cons, List.sum_cons]
    rw [sum_map_add f g l]
    omega
theorem sum_map_zero {α : Type} : ∀ l : List α, (l.map fun _ => 0).sum = 0
  | [] => rfl
  | x :: l => by simp only [List.map_cons, List.sum_cons]; rw [sum_map_zero l]
theorem cnt_app : ∀ (s t w : List Nat), cnt w (s ++ t) = ((splits w).map fun p => cnt p.1 s * cnt p.2 t).sum
  | [], t, [] => by simp [splits, cnt_nil]
  | [], t, a :: w => by
    rw [splits, List.map_cons, List.sum_cons, List.map_map]
    have e : ((splits w).map ((fun p : List Nat × List Nat => cnt p.1 [] * cnt p.2 t) ∘ fun p => (a :: p.1, p.2))).sum = 0 := by
      rw [← sum_map_zero (splits w)]
      congr 1
      apply List.map_congr_left
      intro p _
      show cnt (a :: p.1) [] * cnt p.2 t = 0
      rw [cnt_e, Nat.zero_mul]
    rw [e, cnt_nil, Nat.one_mul, List.nil_append]
    rfl
  | b :: s, t, [] => by simp [splits, cnt_nil]
  | b :: s, t, a :: w => by
    rw [List.cons_append, cnt_c, cnt_app s t (a :: w), cnt_app s t w]
    rw [splits, List.map_cons, List.sum_cons, List.map_map, List.map_cons, List.sum_cons, List.map_map]
    have e : ((splits w).map ((fun p : List Nat × List Nat => cnt p.1 (b :: s) * cnt p.2 t) ∘ fun p => (a :: p.1, p.2))).sum =
        ((splits w).map ((fun p : List Nat × List Nat => cnt p.1 s * cnt p.2 t) ∘ fun p => (a :: p.1, p.2))).sum + if a = b then ((splits w).map fun p => cnt p.1 s * cnt p.2 t).sum else 0 := by
      by_cases h : a = b
      · rw [if_pos h, ← sum_map_add]
        congr 1
        apply List.map_congr_left
        intro p _
        show cnt (a :: p.1) (b :: s) * cnt p.2 t = cnt (a :: p.1) s * cnt p.2 t + cnt p.1 s * cnt p.2 t
        rw [cnt_c, if_pos h, Nat.add_mul]
      · rw [if_neg h, Nat.add_zero]
        congr 1
        apply List.map_congr_left
        intro p _
        show cnt (a :: p.1) (b :: s) * cnt p.2 t = cnt (a :: p.1) s * cnt p.2 t
        rw [cnt_c, if_neg h, Nat.add_zero]
    rw [e]
    simp only [cnt_nil]
    omega
theorem splits_range : ∀ w : List Nat, (List.range (w.length + 1)).map (fun i => (w.take i, w.drop i)) = splits w
  | [] => rfl
  | a :: w => by
    rw [List.length_cons, List.range_succ_eq_map, List.map_cons, List.map_map, splits, ← splits_range w, List.map_map]
    rfl
/-- the same, as it is added up in whole numbers -/
theorem cnt_cuts (w s t : List Nat) : ((cnt w (s ++ t) : Nat) : Int) = ((List.range (w.length + 1)).map fun i => ((cnt (w.take i) s : Nat) : Int) * ((cnt (w.drop i) t : Nat) : Int)).sum := by
  rw [cnt_app, ← splits_range, List.map_map]
  generalize List.range (w.length + 1) = l
  induction l with
  | nil => rfl
  | cons i l ih =>
    simp only [List.map_cons, List.sum_cons, Function.comp] at ih ⊢
    rw [Int.natCast_add, ih, Int.natCast_mul]
theorem cnt_front (w t : List Nat) (c : Nat) : cnt w (c :: t) = cnt w t + if w.take 1 = [c] then cnt (w.drop 1) t else 0 := by
  cases w with
  | nil => simp [cnt_nil]
  | cons a w =>
    rw [cnt_c]
    by_cases h : a = c <;> simp [h]
theorem cnt_back (w t : List Nat) (c : Nat) : cnt w (t ++ [c]) = cnt w t + if w.drop (w.length - 1) = [c] then cnt (w.take (w.length - 1)) t else 0 := by
  rcases List.eq_nil_or_concat w with rfl | ⟨u, a, rfl⟩
  · simp [cnt_nil]
  · rw [List.concat_eq_append, cnt_snoc]
    have e1 : (u ++ [a]).length - 1 = u.length := by simp
    rw [e1, List.drop_left, List.take_left]
    by_cases h : a = c <;> simp [h]
theorem cnt_filter : ∀ (t w : List Nat) (S : Nat → Bool), (∀ a ∈ w, S a = true) → cnt w (t.filter S) = cnt w t
  | [], w, S, _ => rfl
  | b :: t, [], S, _ => by rw [cnt_nil, cnt_nil]
  | b :: t, a :: w, S, h => by
    rw [List.filter_cons]
    by_cases hb : S b = true
    · rw [if_pos hb, cnt_c, cnt_c, cnt_filter t (a :: w) S h, cnt_filter t w S fun x hx => h x (List.mem_cons_of_mem _ hx)]
    · rw [if_neg hb, cnt_filter t (a :: w) S h, cnt_c]
      have n : a ≠ b := fun e => hb (e ▸ h a List.mem_cons_self)
      rw [if_neg n, Nat.add_zero]
def twice : List Nat → List Nat
  | [] => []
  | c :: t => c :: c :: twice t
theorem cnt_twice : ∀ (t w : List Nat), w.Nodup → cnt w (twice t) = 2 ^ w.length * cnt w t
  | [], [], _ => rfl
  | [], a :: w, _ => by rw [twice, cnt_e, Nat.mul_zero]
  | b :: t, [], _ => by rw [cnt_nil, cnt_nil]; rfl
  | b :: t, a :: w, h => by
    obtain ⟨h1, h2⟩ := List.nodup_cons.mp h
    rw [twice, cnt_c, cnt_c, cnt_twice t (a :: w) h, cnt_c]
    by_cases e : a = b
    · subst e
      simp only [if_true]
      have z : cnt w (a :: twice t) = cnt w (twice t) := by
        cases w with
        | nil => rw [cnt_nil, cnt_nil]
        | cons x w =>
          rw [cnt_c, if_neg (fun e : x = a => h1 (by rw [e]; exact List.mem_cons_self)), Nat.add_zero]
      rw [z, cnt_twice t w h2, List.length_cons, Nat.pow_succ, Nat.mul_add]
      generalize cnt w t = q
      generalize 2 ^ w.length = r
      have : r * 2 * q = r * q + r * q := by
        rw [Nat.mul_comm r 2, Nat.mul_assoc]
        omega
      omega
    · simp [e]
/-! ### the row of a count's loop -/
def row (w p : List Nat) : List Int := (List.range (w.length + 1)).map fun j => ((cnt (w.take j) p : Nat) : Int)
theorem row_len (w p : List Nat) : (row w p).length = w.length + 1 := by simp [row]
theorem row_at (w p : List Nat) (j : Nat) (h : j ≤ w.length) : (row w p)[j]? = some ((cnt (w.take j) p : Nat) : Int) := by
  unfold row
  rw [List.getElem?_map, List.getElem?_range (by omega)]
  rfl
theorem row_nil (w : List Nat) : row w [] = 1 :: List.replicate w.length 0 := by
  unfold row
  rw [List.range_succ_eq_map, List.map_cons, List.map_map]
  congr 1
  · apply List.ext_getElem
    · simp
    · intro i h1 h2
      simp only [List.length_map, List.length_range] at h1
      simp only [List.getElem_map, List.getElem_range, List.getElem_replicate, Function.comp]
      rw [cnt_empty _ (by
        cases w with
        | nil => simp at h1
        | cons a w => simp)]
      rfl
/-- behind i turns of the inner loop -/
def mid (w p : List Nat) (c i : Nat) : List Int := (List.range (w.length + 1)).map fun j => if w.length - i < j then ((cnt (w.take j) (p ++ [c]) : Nat) : Int) else ((cnt (w.take j) p : Nat) : Int)
theorem mid_len (w p : List Nat) (c i : Nat) : (mid w p c i).length = w.length + 1 := by simp [mid]
theorem mid_at (w p : List Nat) (c i j : Nat) (h : j ≤ w.length) : (mid w p c i)[j]? = some (if w.length - i < j then ((cnt (w.take j) (p ++ [c]) : Nat) : Int) else ((cnt (w.take j) p : Nat) : Int)) := by
  unfold mid
  rw [List.getElem?_map, List.getElem?_range (by omega)]
  rfl
theorem mid_zero (w p : List Nat) (c : Nat) : mid w p c 0 = row w p := by
  unfold mid row
  apply List.map_congr_left
  intro j hj
  have := List.mem_range.mp hj
  rw [if_neg (by omega)]
theorem mid_all (w p : List Nat) (c : Nat) : mid w p c w.length = row w (p ++ [c]) := by
  unfold mid row
  apply List.map_congr_left
  intro j hj
  by_cases h : j = 0
  · subst h
    simp [cnt_nil]
  · rw [if_pos (by omega)]
theorem take_snoc (w : List Nat) (j : Nat) (h : j < w.length) : w.take (j + 1) = w.take j ++ [w[j]] := by
  rw [List.take_add_one, List.getElem?_eq_getElem h]
  rfl
/-- a turn: at the place k from the end -/
theorem mid_turn (w p : List Nat) (c i : Nat) (h : i < w.length) : mid w p c (i + 1) =
    if w[w.length - 1 - i]? = some c then (mid w p c i).set (w.length - i) (((cnt (w.take (w.length - i)) p : Nat) : Int) + ((cnt (w.take (w.length - 1 - i)) p : Nat) : Int)) else mid w p c i := by
  have hk : w.length - 1 - i < w.length := by omega
  have e1 : w.length - i = w.length - 1 - i + 1 := by omega
  have step : cnt (w.take (w.length - i)) (p ++ [c]) = cnt (w.take (w.length - i)) p + if w[w.length - 1 - i] = c then cnt (w.take (w.length - 1 - i)) p else 0 := by
    rw [e1, take_snoc w _ hk, cnt_snoc]
  apply List.ext_getElem?
  intro j
  by_cases hj : j ≤ w.length
  · rw [mid_at _ _ _ _ _ hj]
    rw [List.getElem?_eq_getElem hk]
    by_cases hc : w[w.length - 1 - i] = c
    · rw [if_pos (congrArg some hc)]
      rw [if_pos hc] at step
      by_cases hjj : j = w.length - i
      · subst hjj
        rw [List.getElem?_set_self (by rw [mid_len]; omega), if_pos (by omega), step, Int.natCast_add]
      · rw [List.getElem?_set_ne (by omega), mid_at _ _ _ _ _ hj]
        by_cases q : w.length - i < j
        · rw [if_pos q, if_pos (by omega)]
        · rw [if_neg q, if_neg (by omega)]
    · rw [if_neg (fun z => hc (Option.some.inj z)), mid_at _ _ _ _ _ hj]
      rw [if_neg hc] at step
      by_cases hjj : j = w.length - i
      · subst hjj
        rw [if_pos (by omega), if_neg (by omega), step, Nat.add_zero]
      · by_cases q : w.length - i < j
        · rw [if_pos q, if_pos (by omega)]
        · rw [if_neg q, if_neg (by omega)]
  · have z1 : (mid w p c (i + 1))[j]? = none := List.getElem?_eq_none_iff.mpr (by rw [mid_len]; omega)
    rw [z1]
    symm
    split
    · exact List.getElem?_eq_none_iff.mpr (by rw [List.length_set, mid_len]; omega)
    · exact List.getElem?_eq_none_iff.mpr (by rw [mid_len]; omega)
end Mx
namespace Mx
theorem cnt_le : ∀ (t w : List Nat), cnt w t ≤ 2 ^ t.length
  | [], [] => by decide
  | [], _ :: _ => Nat.zero_le _
  | b :: t, [] => by
    rw [cnt_nil]
    exact Nat.one_le_two_pow
  | b :: t, a :: w => by
    rw [cnt_c, List.length_cons, Nat.pow_succ]
    have h1 := cnt_le t (a :: w)
    have h2 := cnt_le t w
    split <;> omega
theorem twice_flat : ∀ t : List Nat, (t.map fun c => [c, c]).flatten = twice t
  | [] => rfl
  | c :: t => by
    rw [List.map_cons, List.flatten_cons, twice_flat t]
    rfl
end Mx
set_option linter.all false
/-! Lx: all words over some letters, in order, and the rows of their counts -/
namespace Lx
open Mx
/-- all words of n letters over L, in order -/
def wd (L : List Nat) : Nat → List (List Nat)
  | 0 => [[]]
  | n + 1 => (wd L n).flatMap fun u => L.map fun a => u ++ [a]
theorem wd_len (L : List Nat) : ∀ n, (wd L n).length = L.length ^ n
  | 0 => rfl
  | n + 1 => by
    rw [wd, List.length_flatMap]
    have e : (wd L n).map (fun u => (L.map fun a => u ++ [a]).length) = (wd L n).map fun _ => L.length := by
      apply List.map_congr_left
      intro u _
      rw [List.length_map]
    rw [e, List.map_const', List.sum_replicate_nat, wd_len L n, Nat.pow_succ]
theorem flat_at {α β : Type} (f : α → List β) (m : Nat) (hf : ∀ a, (f a).length = m) : ∀ (l : List α) (i j : Nat), j < m → (l.flatMap f)[i * m + j]? = (l[i]?).bind fun a => (f a)[j]?
  | [], i, j, h => by simp
  | x :: l, 0, j, h => by
    rw [List.flatMap_cons, Nat.zero_mul, Nat.zero_add, List.getElem?_append_left (by rw [hf]; exact h)]
    rfl
  | x :: l, i + 1, j, h => by
    rw [List.flatMap_cons, List.getElem?_append_right (by rw [hf, Nat.add_mul]; omega), hf]
    have e : (i + 1) * m + j - m = i * m + j := by rw [Nat.add_mul]; omega
    rw [e, flat_at f m hf l i j h]
    rfl
/-- the word at a place: the one without its last letter, and this letter -/
theorem wd_at (L : List Nat) (n i j : Nat) (h : j < L.length) : (wd L (n + 1))[i * L.length + j]? = ((wd L n)[i]?).bind fun u => (L[j]?).map fun a => u ++ [a] := by
  rw [wd, flat_at _ L.length (fun a => by rw [List.length_map]) _ _ _ h]
  congr 1
  funext u
  rw [List.getElem?_map]
theorem wd_size (L : List Nat) : ∀ (n : Nat), ∀ u ∈ wd L n, u.length = n
  | 0, u, h => by
    rw [wd, List.mem_singleton] at h
    rw [h]
    rfl
  | n + 1, u, h => by
    rw [wd, List.mem_flatMap] at h
    obtain ⟨v, hv, hu⟩ := h
    obtain ⟨a, _, rfl⟩ := List.mem_map.mp hu
    rw [List.length_append, wd_size L n v hv]
    rfl
/-- the level n of the counts in p -/
def lev (L : List Nat) (n : Nat) (p : List Nat) : List Int := (wd L n).map fun u => ((cnt u p : Nat) : Int)
theorem lev_len (L : List Nat) (n : Nat) (p : List Nat) : (lev L n p).length = L.length ^ n := by rw [lev, List.length_map, wd_len]
theorem lev_zero (L p : List Nat) : lev L 0 p = [1] := by simp [lev, wd, cnt_nil]
theorem lev_empty (L : List Nat) (n : Nat) : lev L (n + 1) [] = List.replicate (L.length ^ (n + 1)) 0 := by
  apply List.ext_getElem
  · rw [lev_len, List.length_replicate]
  · intro i h1 h2
    rw [lev_len] at h1
    rw [List.getElem_replicate]
    simp only [lev, List.getElem_map]
    have hm : (wd L (n + 1))[i]'(by rw [wd_len]; exact h1) ∈ wd L (n + 1) := List.getElem_mem _
    rw [cnt_empty _ (fun e => by
      have := wd_size L (n + 1) _ hm
      rw [e] at this
      simp at this)]
    rfl
/-- the level n + 1 behind i numbers of the level n, for the letter at the place k -/
def part (L : List Nat) (n : Nat) (p : List Nat) (c i k : Nat) : List Int := (List.range (L.length ^ (n + 1))).map fun j =>
  if j / L.length < i then ((cnt ((wd L (n + 1)).getD j []) (p ++ [c]) : Nat) : Int) else ((cnt ((wd L (n + 1)).getD j []) p : Nat) : Int)
theorem part_len (L : List Nat) (n : Nat) (p : List Nat) (c i k : Nat) : (part L n p c i k).length = L.length ^ (n + 1) := by simp [part]
theorem lev_range (L : List Nat) (n : Nat) (p : List Nat) : lev L n p = (List.range (L.length ^ n)).map fun j => ((cnt ((wd L n).getD j []) p : Nat) : Int) := by
  apply List.ext_getElem
  · rw [lev_len, List.length_map, List.length_range]
  · intro i h1 h2
    rw [lev_len] at h1
    have hw : i < (wd L n).length := by rw [wd_len]; exact h1
    simp only [lev, List.getElem_map, List.getElem_range]
    rw [List.getD_eq_getElem?_getD, List.getElem?_eq_getElem hw]
    rfl
theorem part_zero (L : List Nat) (n : Nat) (p : List Nat) (c k : Nat) : part L n p c 0 k = lev L (n + 1) p := by
  rw [lev_range, part]
  apply List.map_congr_left
  intro j _
  rw [if_neg (Nat.not_lt_zero _)]
theorem part_all (L : List Nat) (n : Nat) (p : List Nat) (c k : Nat) : part L n p c (L.length ^ n) k = lev L (n + 1) (p ++ [c]) := by
  rw [lev_range, part]
  apply List.map_congr_left
  intro j hj
  have := List.mem_range.mp hj
  rw [if_pos (Nat.div_lt_of_lt_mul (by rw [Nat.mul_comm, ← Nat.pow_succ]; exact this))]
theorem part_at (L : List Nat) (n : Nat) (p : List Nat) (c i k j : Nat) (h : j < L.length ^ (n + 1)) : (part L n p c i k)[j]? =
    some (if j / L.length < i then ((cnt ((wd L (n + 1)).getD j []) (p ++ [c]) : Nat) : Int) else ((cnt ((wd L (n + 1)).getD j []) p : Nat) : Int)) := by
  unfold part
  rw [List.getElem?_map, List.getElem?_range h]
  rfl
theorem wd_get (L : List Nat) (n i j : Nat) (hi : i < L.length ^ n) (hj : j < L.length) : (wd L (n + 1)).getD (i * L.length + j) [] = (wd L n).getD i [] ++ [L.getD j 0] := by
  have hw : i < (wd L n).length := by rw [wd_len]; exact hi
  rw [List.getD_eq_getElem?_getD, wd_at L n i j hj, List.getElem?_eq_getElem hw, List.getElem?_eq_getElem hj, List.getD_eq_getElem?_getD, List.getElem?_eq_getElem hw, List.getD_eq_getElem?_getD, List.getElem?_eq_getElem hj]
  rfl
theorem slot_lt (L : List Nat) (n i k : Nat) (hi : i < L.length ^ n) (hk : k < L.length) : i * L.length + k < L.length ^ (n + 1) := by
  rw [Nat.pow_succ]
  calc i * L.length + k < i * L.length + L.length := by omega
    _ = (i + 1) * L.length := by rw [Nat.add_mul, Nat.one_mul]
    _ ≤ L.length ^ n * L.length := Nat.mul_le_mul_right _ hi
theorem slot_old (L : List Nat) (n : Nat) (p : List Nat) (c i k : Nat) (hi : i < L.length ^ n) (hk : k < L.length) :
    (part L n p c i k)[i * L.length + k]? = some ((cnt ((wd L n).getD i [] ++ [L.getD k 0]) p : Nat) : Int) := by
  rw [part_at _ _ _ _ _ _ _ (slot_lt L n i k hi hk), wd_get L n i k hi hk]
  have e : (i * L.length + k) / L.length = i := by
    rw [Nat.mul_comm, Nat.mul_add_div (by omega), Nat.div_eq_of_lt hk, Nat.add_zero]
  rw [e, if_neg (Nat.lt_irrefl _)]
theorem part_turn (L : List Nat) (nd : L.Nodup) (n : Nat) (p : List Nat) (c i k : Nat) (hi : i < L.length ^ n) (hk : k < L.length) (hc : L.getD k 0 = c) :
    part L n p c (i + 1) k = (part L n p c i k).set (i * L.length + k) (((cnt ((wd L n).getD i [] ++ [L.getD k 0]) p : Nat) : Int) + ((cnt ((wd L n).getD i []) p : Nat) : Int)) := by
  have sl := slot_lt L n i k hi hk
  apply List.ext_getElem?
  intro j
  by_cases hj : j < L.length ^ (n + 1)
  · rw [part_at _ _ _ _ _ _ _ hj]
    have hL : 0 < L.length := by omega
    have dm := Nat.div_add_mod j L.length
    have ml := Nat.mod_lt j hL
    have jd : j / L.length < L.length ^ n := Nat.div_lt_of_lt_mul (by rw [Nat.mul_comm, ← Nat.pow_succ]; exact hj)
    have ej : j = (j / L.length) * L.length + j % L.length := by rw [Nat.mul_comm]; exact dm.symm
    have wj : (wd L (n + 1)).getD j [] = (wd L n).getD (j / L.length) [] ++ [L.getD (j % L.length) 0] := by
      have q := wd_get L n (j / L.length) (j % L.length) jd ml
      rw [← ej] at q
      exact q
    by_cases q : j = i * L.length + k
    · subst q
      rw [List.getElem?_set_self (by rw [part_len]; exact hj)]
      have e : (i * L.length + k) / L.length = i := by
        rw [Nat.mul_comm, Nat.mul_add_div (by omega), Nat.div_eq_of_lt hk, Nat.add_zero]
      rw [if_pos (by rw [e]; omega), wd_get L n i k hi hk, cnt_snoc, if_pos hc, Int.natCast_add]
    · rw [List.getElem?_set_ne (fun z => q z.symm), part_at _ _ _ _ _ _ _ hj]
      by_cases a : j / L.length < i
      · rw [if_pos (by omega), if_pos a]
      · rw [if_neg a]
        by_cases b : j / L.length < i + 1
        · have eq : j / L.length = i := by omega
          have nk : j % L.length ≠ k := fun z => q (by rw [ej, eq, z])
          rw [if_pos b, wj, cnt_snoc, if_neg, Nat.add_zero]
          intro z
          rw [← hc] at z
          apply nk
          have h1 : L[j % L.length]? = L[k]? := by
            rw [List.getD_eq_getElem?_getD, List.getD_eq_getElem?_getD, List.getElem?_eq_getElem ml, List.getElem?_eq_getElem hk] at z
            rw [List.getElem?_eq_getElem ml, List.getElem?_eq_getElem hk]
            exact congrArg some z
          exact (List.getElem?_inj ml nd).mp h1
        · rw [if_neg b]
  · have z1 : (part L n p c (i + 1) k)[j]? = none := List.getElem?_eq_none_iff.mpr (by rw [part_len]; omega)
    rw [z1]
    symm
    exact List.getElem?_eq_none_iff.mpr (by rw [List.length_set, part_len]; omega)
/-- a sign that L has not changes no level -/
theorem cnt_other (p u : List Nat) (c : Nat) (h : c ∉ u) : cnt u (p ++ [c]) = cnt u p := by
  rcases List.eq_nil_or_concat u with rfl | ⟨v, a, rfl⟩
  · rw [cnt_nil, cnt_nil]
  · rw [List.concat_eq_append] at h ⊢
    rw [cnt_snoc, if_neg (fun e => h (by rw [e]; exact List.mem_append_right _ (List.mem_singleton.mpr rfl))), Nat.add_zero]
theorem wd_over (L : List Nat) : ∀ n, ∀ u ∈ wd L n, ∀ a ∈ u, a ∈ L
  | 0, u, h, a, ha => by
    rw [wd, List.mem_singleton] at h
    rw [h] at ha
    exact absurd ha (by simp)
  | n + 1, u, h, a, ha => by
    rw [wd, List.mem_flatMap] at h
    obtain ⟨v, hv, hu⟩ := h
    obtain ⟨b, hb, rfl⟩ := List.mem_map.mp hu
    rcases List.mem_append.mp ha with z | z
    · exact wd_over L n v hv a z
    · rw [List.mem_singleton] at z
      rw [z]
      exact hb
theorem lev_other (L : List Nat) (n : Nat) (p : List Nat) (c : Nat) (h : c ∉ L) : lev L n (p ++ [c]) = lev L n p := by
  unfold lev
  apply List.map_congr_left
  intro u hu
  rw [cnt_other p u c fun z => h (wd_over L n u hu c z)]
/-- all words up to d letters, in the order of texts -/
def upto (L : List Nat) : Nat → List (List Nat)
  | 0 => wd L 0
  | d + 1 => upto L d ++ wd L (d + 1)
def rows (L : List Nat) (d : Nat) (p : List Nat) : List (List Int) := (List.range (d + 1)).map fun n => lev L n p
theorem rows_flat (L : List Nat) (p : List Nat) : ∀ d, (rows L d p).flatten = (upto L d).map fun u => ((cnt u p : Nat) : Int)
  | 0 => by simp [rows, upto, lev]
  | d + 1 => by
    have ih := rows_flat L p d
    unfold rows at ih ⊢
    rw [List.range_succ, List.map_append, List.flatten_append, ih, upto, List.map_append]
    simp [lev]
end Lx
set_option Elab.async false
set_option linter.all false
set_option maxRecDepth 100000
set_option maxHeartbeats 4000000
/-! Ar: what is read in a text; how many texts of a size are; arches -/
namespace Ar
open Lx
/-- w is read in t, the letters from the left on -/
def sub : List Nat → List Nat → Bool
  | [], _ => true
  | _ :: _, [] => false
  | a :: w, b :: t => if a = b then sub w t else sub (a :: w) t
theorem sub_nil (t : List Nat) : sub [] t = true := by cases t <;> rfl
theorem sub_tail : ∀ (t : List Nat) (a : Nat) (w : List Nat), sub (a :: w) t = true → sub w t = true
  | [], _, _, h => by cases h
  | b :: t, a, w, h => by
    cases w with
    | nil => exact sub_nil _
    | cons x w =>
      unfold sub at h ⊢
      split at h
      · split
        · exact sub_tail t x w h
        · exact h
      · have := sub_tail t a (x :: w) h
        split
        · exact sub_tail t x w this
        · exact this
theorem sub_more (t : List Nat) (b : Nat) : ∀ w, sub w t = true → sub w (b :: t) = true
  | [], _ => sub_nil _
  | a :: w, h => by
    unfold sub
    split
    · exact sub_tail t a w h
    · exact h
/-- the rest of a text behind the first c -/
def after (c : Nat) : List Nat → Option (List Nat)
  | [] => none
  | b :: t => if c = b then some t else after c t
theorem sub_cons (c : Nat) (w : List Nat) : ∀ t, sub (c :: w) t = match after c t with
    | none => false
    | some u => sub w u
  | [] => rfl
  | b :: t => by
    show (if c = b then sub w t else sub (c :: w) t) = match (if c = b then some t else after c t) with
      | none => false
      | some u => sub w u
    by_cases h : c = b
    · rw [if_pos h, if_pos h]
    · rw [if_neg h, if_neg h]
      exact sub_cons c w t
theorem after_none {c : Nat} : ∀ {t : List Nat}, after c t = none ↔ c ∉ t
  | [] => by simp [after]
  | b :: t => by
    unfold after
    by_cases h : c = b
    · rw [if_pos h]
      simp [h]
    · rw [if_neg h, after_none]
      simp [h]
theorem after_some {c : Nat} : ∀ {t u : List Nat}, after c t = some u → ∃ s, t = s ++ c :: u ∧ c ∉ s
  | [], _, h => by cases h
  | b :: t, u, h => by
    unfold after at h
    by_cases q : c = b
    · rw [if_pos q] at h
      cases h
      exact ⟨[], by rw [q]; rfl, by simp⟩
    · rw [if_neg q] at h
      obtain ⟨s, rfl, n⟩ := after_some h
      exact ⟨b :: s, rfl, by simp [q, n]⟩
theorem after_at {c : Nat} : ∀ (s u : List Nat), c ∉ s → after c (s ++ c :: u) = some u
  | [], u, _ => by show (if c = c then some u else _) = _; rw [if_pos rfl]
  | b :: s, u, h => by
    have h1 : c ≠ b := fun z => h (by simp [z])
    show (if c = b then _ else after c (s ++ c :: u)) = _
    rw [if_neg h1]
    exact after_at s u fun z => h (by simp [z])
theorem sub_len : ∀ (t w : List Nat), sub w t = true → w.length ≤ t.length
  | _, [], _ => Nat.zero_le _
  | [], _ :: _, h => by cases h
  | b :: t, a :: w, h => by
    unfold sub at h
    split at h
    · have := sub_len t w h
      simp
      omega
    · have := sub_len t (a :: w) h
      simp at this ⊢
      omega
/-- the last letter -/
theorem sub_snoc (a c : Nat) : ∀ (t w : List Nat), sub (w ++ [a]) (t ++ [c]) = if a = c then sub w t else sub (w ++ [a]) t
  | [], [] => by
    show (if a = c then sub [] [] else sub [a] []) = _
    rfl
  | [], x :: w => by
    have e : sub (x :: w ++ [a]) ([] ++ [c]) = if x = c then sub (w ++ [a]) [] else sub (x :: (w ++ [a])) [] := rfl
    rw [e]
    have h1 : sub (w ++ [a]) [] = false := by cases w <;> rfl
    have h2 : sub (x :: (w ++ [a])) [] = false := rfl
    have h3 : sub (x :: w) [] = false := rfl
    have h4 : sub (x :: w ++ [a]) [] = false := rfl
    rw [h1, h2, h3, h4]
    split <;> split <;> rfl
  | b :: t, [] => by
    have e : sub ([] ++ [a]) (b :: t ++ [c]) = if a = b then sub [] (t ++ [c]) else sub [a] (t ++ [c]) := rfl
    have ih := sub_snoc a c t []
    have ih' : sub [a] (t ++ [c]) = if a = c then sub [] t else sub [a] t := ih
    rw [e, sub_nil, ih', sub_nil, sub_nil]
    have e2 : sub ([] ++ [a]) (b :: t) = if a = b then sub [] t else sub [a] t := rfl
    rw [e2, sub_nil]
    by_cases h1 : a = b <;> by_cases h2 : a = c <;> simp [h1, h2]
  | b :: t, x :: w => by
    have e : sub (x :: w ++ [a]) (b :: t ++ [c]) = if x = b then sub (w ++ [a]) (t ++ [c]) else sub (x :: w ++ [a]) (t ++ [c]) := rfl
    rw [e, sub_snoc a c t w, sub_snoc a c t (x :: w)]
    have e2 : sub (x :: w) (b :: t) = if x = b then sub w t else sub (x :: w) t := rfl
    have e3 : sub (x :: w ++ [a]) (b :: t) = if x = b then sub (w ++ [a]) t else sub (x :: w ++ [a]) t := rfl
    rw [e2, e3]
    by_cases h1 : x = b <;> by_cases h2 : a = c <;> simp [h1, h2]
/-! ### sums over all texts of a size -/
def S (L : List Nat) (m : Nat) (f : List Nat → Int) : Int := ((wd L m).map f).sum
theorem sum_flat {α β : Type} (g : α → List β) (f : β → Int) : ∀ l : List α, ((l.flatMap g).map f).sum = (l.map fun a => ((g a).map f).sum).sum
  | [] => rfl
  | a :: l => by
    rw [List.flatMap_cons, List.map_append, List.sum_append, List.map_cons, List.sum_cons, sum_flat g f l]
theorem sum_add {α : Type} (f g : α → Int) : ∀ l : List α, (l.map fun a => f a + g a).sum = (l.map f).sum + (l.map g).sum
  | [] => rfl
  | a :: l => by
    simp only [List.map_cons, List.sum_cons, sum_add f g l]
    omega
theorem sum_swap {α β : Type} (f : α → β → Int) : ∀ (l : List α) (r : List β), (l.map fun a => (r.map fun b => f a b).sum).sum = (r.map fun b => (l.map fun a => f a b).sum).sum
  | [], r => by
    show (0 : Int) = _
    induction r with
    | nil => rfl
    | cons b r ih => rw [List.map_cons, List.sum_cons, ← ih]; rfl
  | a :: l, r => by
    rw [List.map_cons, List.sum_cons, sum_swap f l r, ← sum_add]
    rfl
theorem sum_congr {α : Type} {f g : α → Int} {l : List α} (h : ∀ a ∈ l, f a = g a) : (l.map f).sum = (l.map g).sum := by rw [List.map_congr_left h]
theorem S_snoc (L : List Nat) (m : Nat) (f : List Nat → Int) : S L (m + 1) f = S L m fun w => (L.map fun c => f (w ++ [c])).sum := by
  unfold S
  rw [wd, sum_flat]
  exact sum_congr fun w _ => by rw [List.map_map]; rfl
theorem S_swap (L : List Nat) (m : Nat) (f : List Nat → Nat → Int) (l : List Nat) : S L m (fun w => (l.map fun c => f w c).sum) = (l.map fun c => S L m fun w => f w c).sum := sum_swap f (wd L m) l
theorem S_cons (L : List Nat) : ∀ (m : Nat) (f : List Nat → Int), S L (m + 1) f = (L.map fun c => S L m fun w => f (c :: w)).sum
  | 0, f => by
    rw [S_snoc]
    show ((wd L 0).map _).sum = _
    rw [wd]
    show (L.map fun c => f ([] ++ [c])).sum + 0 = _
    rw [Int.add_zero]
    exact sum_congr fun c _ => by
      show f [c] = ((wd L 0).map _).sum
      rw [wd]
      show _ = f [c] + 0
      omega
  | m + 1, f => by
    rw [S_snoc, S_cons L m]
    exact sum_congr fun c _ => by rw [S_snoc]; rfl
theorem S_congr {L : List Nat} {m : Nat} {f g : List Nat → Int} (h : ∀ w ∈ wd L m, f w = g w) : S L m f = S L m g := sum_congr h
theorem S_one (L : List Nat) (m : Nat) : S L m (fun _ => 1) = ((L.length ^ m : Nat) : Int) := by
  unfold S
  rw [← wd_len L m]
  induction wd L m with
  | nil => rfl
  | cons a l ih =>
    rw [List.map_cons, List.sum_cons, ih, List.length_cons]
    omega
def bit (b : Bool) : Int := if b then 1 else 0
/-- how many texts of m letters are read in t -/
def R (L : List Nat) (m : Nat) (t : List Nat) : Int := S L m fun w => bit (sub w t)
/-- how many are not -/
def N (L : List Nat) (m : Nat) (t : List Nat) : Int := S L m fun w => bit (!sub w t)
theorem R_zero (L t : List Nat) : R L 0 t = 1 := by
  unfold R S
  rw [wd]
  show bit (sub [] t) + 0 = 1
  rw [sub_nil]
  rfl
theorem N_zero (L t : List Nat) : N L 0 t = 0 := by
  unfold N S
  rw [wd]
  show bit (!sub [] t) + 0 = 0
  rw [sub_nil]
  rfl
theorem R_N (L : List Nat) (m : Nat) (t : List Nat) : N L m t = ((L.length ^ m : Nat) : Int) - R L m t := by
  rw [← S_one]
  have : S L m (fun _ => 1) = S L m (fun w => bit (!sub w t) + bit (sub w t)) := S_congr fun w _ => by cases sub w t <;> rfl
  rw [this]
  have : S L m (fun w => bit (!sub w t) + bit (sub w t)) = N L m t + R L m t := sum_add _ _ _
  omega
theorem R_short {L : List Nat} {m : Nat} {t : List Nat} (h : t.length < m) : R L m t = 0 := by
  unfold R
  rw [S_congr (g := fun _ => 0) fun w hw => by
    have e := wd_size L m w hw
    cases z : sub w t with
    | false => rfl
    | true =>
      have := sub_len t w z
      omega]
  unfold S
  induction wd L m with
  | nil => rfl
  | cons a l ih => rw [List.map_cons, List.sum_cons, ih]; rfl
/-- by the last letter -/
theorem one_of {L : List Nat} (nd : L.Nodup) {c : Nat} (hc : c ∈ L) (f : Nat → Int) (y : Int) : (L.map fun a => if a = c then y else f a).sum = (L.map f).sum + (y - f c) := by
  induction L with
  | nil => cases hc
  | cons b L ih =>
    rw [List.map_cons, List.sum_cons, List.map_cons, List.sum_cons]
    obtain ⟨nb, nd'⟩ := List.nodup_cons.mp nd
    by_cases h : b = c
    · rw [if_pos h]
      have : (L.map fun a => if a = c then y else f a) = L.map f := List.map_congr_left fun a ha => if_neg fun z => nb (by rw [h, ← z]; exact ha)
      rw [this, h]
      omega
    · rw [if_neg h]
      have : c ∈ L := by
        rcases List.mem_cons.mp hc with z | z
        · exact absurd z.symm h
        · exact z
      rw [ih nd' this]
      omega
theorem S_add (L : List Nat) (m : Nat) (f g : List Nat → Int) : S L m (fun w => f w + g w) = S L m f + S L m g := sum_add _ _ _
theorem S_neg (L : List Nat) (m : Nat) (f : List Nat → Int) : S L m (fun w => - f w) = - S L m f := by
  unfold S
  induction wd L m with
  | nil => rfl
  | cons a l ih =>
    rw [List.map_cons, List.sum_cons, List.map_cons, List.sum_cons, ih]
    omega
/-- how many texts of m letters, c behind them, are read in t -/
def RC (L : List Nat) (m c : Nat) (t : List Nat) : Int := S L m fun w => bit (sub (w ++ [c]) t)
theorem RC_snoc (L : List Nat) (m a c : Nat) (t : List Nat) : RC L m a (t ++ [c]) = if a = c then R L m t else RC L m a t := by
  unfold RC
  by_cases h : a = c
  · rw [if_pos h]
    exact S_congr fun w _ => by rw [sub_snoc, if_pos h]
  · rw [if_neg h]
    exact S_congr fun w _ => by rw [sub_snoc, if_neg h]
theorem RC_nil (L : List Nat) (m a : Nat) : RC L m a [] = 0 := by
  unfold RC S
  have : ∀ w : List Nat, bit (sub (w ++ [a]) []) = 0 := fun w => by cases w <;> rfl
  simp only [this]
  induction wd L m with
  | nil => rfl
  | cons a l ih => rw [List.map_cons, List.sum_cons, ih]; rfl
theorem R_RC (L : List Nat) (m : Nat) (t : List Nat) : R L (m + 1) t = (L.map fun c => RC L m c t).sum := by
  unfold R
  rw [S_snoc]
  exact S_swap L m (fun w c => bit (sub (w ++ [c]) t)) L
theorem R_snoc {L : List Nat} (nd : L.Nodup) (m c : Nat) (hc : c ∈ L) (t : List Nat) : R L (m + 1) (t ++ [c]) = R L (m + 1) t + R L m t - RC L m c t := by
  rw [R_RC, R_RC]
  have : (L.map fun a => RC L m a (t ++ [c])) = L.map fun a => if a = c then R L m t else RC L m a t := List.map_congr_left fun a _ => RC_snoc L m a c t
  rw [this, one_of nd hc]
  omega
/-- by the first letter -/
theorem N_cons (L : List Nat) (m : Nat) (t : List Nat) : N L (m + 1) t = (L.map fun c => match after c t with
    | none => ((L.length ^ m : Nat) : Int)
    | some u => N L m u).sum := by
  unfold N
  rw [S_cons]
  exact sum_congr fun c _ => by
    cases h : after c t with
    | none =>
      rw [← S_one]
      exact S_congr fun w _ => by rw [sub_cons, h]; rfl
    | some u => exact S_congr fun w _ => by rw [sub_cons, h]
/-- as a list -/
def miss (L : List Nat) (m : Nat) (t : List Nat) : List (List Nat) := (wd L m).filter fun w => !sub w t
theorem miss_len (L : List Nat) (m : Nat) (t : List Nat) : (((miss L m t).length : Nat) : Int) = N L m t := by
  unfold miss N S
  induction wd L m with
  | nil => rfl
  | cons a l ih =>
    rw [List.filter_cons, List.map_cons, List.sum_cons, ← ih]
    cases sub a t <;> simp [bit]
    omega
/-! ### arches -/
def full (L s : List Nat) : Bool := L.all fun c => decide (c ∈ s)
def arc (L : List Nat) : List Nat → List Nat → List (List Nat) × List Nat
  | cur, [] => ([], cur)
  | cur, c :: t => if full L (cur ++ [c]) = true then ((cur ++ [c]) :: (arc L [] t).1, (arc L [] t).2) else arc L (cur ++ [c]) t
theorem full_iff {L s : List Nat} : full L s = true ↔ ∀ c ∈ L, c ∈ s := by simp [full]
theorem not_full {L s : List Nat} (h : full L s = false) : ∃ c ∈ L, c ∉ s := by
  simpa [full] using h
theorem arc_join (L : List Nat) : ∀ (t cur : List Nat), (arc L cur t).1.flatten ++ (arc L cur t).2 = cur ++ t
  | [], cur => by simp [arc]
  | c :: t, cur => by
    unfold arc
    split
    · show ((cur ++ [c]) :: (arc L [] t).1).flatten ++ (arc L [] t).2 = _
      rw [List.flatten_cons, List.append_assoc, arc_join L t []]
      simp
    · rw [arc_join L t]
      simp
theorem arc_each (L : List Nat) : ∀ (t cur : List Nat), full L cur = false → ∀ a ∈ (arc L cur t).1, full L a = true ∧ full L a.dropLast = false ∧ a ≠ []
  | [], cur, _, a, ha => by simp [arc] at ha
  | c :: t, cur, h, a, ha => by
    unfold arc at ha
    split at ha
    · rename_i q
      have : a ∈ (cur ++ [c]) :: (arc L [] t).1 := ha
      have e : full L [] = false := by
        cases z : full L [] with
        | false => rfl
        | true =>
          rw [full_iff] at z
          obtain ⟨x, hx, nx⟩ := not_full h
          cases z x hx
      rcases List.mem_cons.mp this with rfl | w
      · refine ⟨q, ?_, by simp⟩
        rw [List.dropLast_concat]
        exact h
      · exact arc_each L t [] e a w
    · rename_i q
      exact arc_each L t (cur ++ [c]) (by simpa using q) a ha
theorem arc_rest (L : List Nat) : ∀ (t cur : List Nat), full L cur = false → full L (arc L cur t).2 = false
  | [], cur, h => h
  | c :: t, cur, h => by
    unfold arc
    split
    · have e : full L [] = false := by
        cases z : full L [] with
        | false => rfl
        | true =>
          rw [full_iff] at z
          obtain ⟨x, hx, nx⟩ := not_full h
          cases z x hx
      exact arc_rest L t [] e
    · rename_i q
      exact arc_rest L t (cur ++ [c]) (by simpa using q)
theorem sub_app_left (s : List Nat) : ∀ (w t : List Nat), sub w t = true → sub w (s ++ t) = true := by
  induction s with
  | nil => intro w t h; exact h
  | cons b s ih => intro w t h; exact sub_more _ b w (ih w t h)
theorem sub_step {a r w : List Nat} {c : Nat} (hc : c ∈ a) (h : sub w r = true) : sub (c :: w) (a ++ r) = true := by
  rw [sub_cons]
  induction a with
  | nil => cases hc
  | cons b a ih =>
    show (match (if c = b then some (a ++ r) else after c (a ++ r)) with
      | none => false
      | some u => sub w u) = true
    by_cases q : c = b
    · rw [if_pos q]
      exact sub_app_left a w r h
    · rw [if_neg q]
      exact ih (by
        rcases List.mem_cons.mp hc with z | z
        · exact absurd z q
        · exact z)
theorem all_read (L : List Nat) : ∀ (f : List (List Nat)) (r w : List Nat), (∀ a ∈ f, full L a = true) → (∀ c ∈ w, c ∈ L) → w.length = f.length → sub w (f.flatten ++ r) = true
  | [], r, w, _, _, h => by
    have : w = [] := List.length_eq_zero_iff.mp h
    rw [this]
    exact sub_nil _
  | a :: f, r, [], _, _, h => by cases h
  | a :: f, r, c :: w, hf, hw, h => by
    rw [List.flatten_cons, List.append_assoc]
    exact sub_step (full_iff.mp (hf a List.mem_cons_self) c (hw c List.mem_cons_self)) (all_read L f r w (fun b hb => hf b (List.mem_cons_of_mem _ hb)) (fun x hx => hw x (List.mem_cons_of_mem _ hx)) (by simpa using h))
theorem arc_last {L a : List Nat} (h1 : full L a = true) (h2 : full L a.dropLast = false) : ∃ s c, a = s ++ [c] ∧ c ∉ s ∧ c ∈ L := by
  obtain ⟨x, hx, nx⟩ := not_full h2
  have xa := full_iff.mp h1 x hx
  have ne : a ≠ [] := fun z => by rw [z] at xa; cases xa
  have e := List.dropLast_concat_getLast ne
  refine ⟨a.dropLast, a.getLast ne, e.symm, ?_, ?_⟩
  · have : x = a.getLast ne := by
      rw [← e] at xa
      rcases List.mem_append.mp xa with z | z
      · exact absurd z nx
      · simpa using z
    rw [← this]
    exact nx
  · have : x = a.getLast ne := by
      rw [← e] at xa
      rcases List.mem_append.mp xa with z | z
      · exact absurd z nx
      · simpa using z
    rw [← this]
    exact hx
theorem one_missing (L : List Nat) : ∀ (f : List (List Nat)) (r : List Nat), (∀ a ∈ f, full L a = true ∧ full L a.dropLast = false) → full L r = false → ∃ w, w.length = f.length + 1 ∧ (∀ c ∈ w, c ∈ L) ∧ sub w (f.flatten ++ r) = false
  | [], r, _, hr => by
    obtain ⟨c, hc, nc⟩ := not_full hr
    refine ⟨[c], rfl, fun x hx => by rw [List.mem_singleton.mp hx]; exact hc, ?_⟩
    show sub [c] r = false
    rw [sub_cons, after_none.mpr nc]
  | a :: f, r, hf, hr => by
    obtain ⟨w, h1, h2, h3⟩ := one_missing L f r (fun b hb => hf b (List.mem_cons_of_mem _ hb)) hr
    obtain ⟨q1, q2⟩ := hf a List.mem_cons_self
    obtain ⟨s, c, rfl, ns, cL⟩ := arc_last q1 q2
    refine ⟨c :: w, by simp [h1], fun x hx => ?_, ?_⟩
    · rcases List.mem_cons.mp hx with z | z
      · rw [z]; exact cL
      · exact h2 x z
    · rw [sub_cons, List.flatten_cons, List.append_assoc, List.append_assoc]
      show (match after c (s ++ c :: (f.flatten ++ r)) with
        | none => false
        | some u => sub w u) = false
      rw [after_at _ _ ns]
      exact h3
theorem mem_wd (L : List Nat) : ∀ (m : Nat) (w : List Nat), w.length = m → (∀ c ∈ w, c ∈ L) → w ∈ wd L m
  | 0, w, h, _ => by
    rw [wd, List.length_eq_zero_iff.mp h]
    exact List.mem_singleton.mpr rfl
  | m + 1, w, h, hw => by
    have ne : w ≠ [] := fun z => by rw [z] at h; cases h
    have e := List.dropLast_concat_getLast ne
    rw [wd]
    refine List.mem_flatMap.mpr ⟨w.dropLast, mem_wd L m _ (by rw [List.length_dropLast, h]; rfl) (fun c hc => hw c (List.dropLast_subset _ hc)), ?_⟩
    exact List.mem_map.mpr ⟨w.getLast ne, hw _ (List.getLast_mem ne), e⟩
/-- how many arches -/
def ar (L t : List Nat) : Nat := (arc L [] t).1.length
theorem nil_not {L : List Nat} (h : L ≠ []) : full L [] = false := by
  cases L with
  | nil => exact absurd rfl h
  | cons a L => simp [full]
theorem arc_whole {L t : List Nat} : (arc L [] t).1.flatten ++ (arc L [] t).2 = t := by
  have := arc_join L t []
  simpa using this
theorem none_miss {L t : List Nat} (h : L ≠ []) : miss L (ar L t) t = [] := by
  unfold miss
  refine List.filter_eq_nil_iff.mpr fun w hw => ?_
  have := all_read L (arc L [] t).1 (arc L [] t).2 w (fun a ha => (arc_each L t [] (nil_not h) a ha).1) (wd_over L _ w hw) (wd_size L _ w hw)
  rw [arc_whole] at this
  rw [this]
  decide
theorem some_miss {L t : List Nat} (h : L ≠ []) : miss L (ar L t + 1) t ≠ [] := by
  obtain ⟨w, h1, h2, h3⟩ := one_missing L (arc L [] t).1 (arc L [] t).2 (fun a ha => ⟨(arc_each L t [] (nil_not h) a ha).1, (arc_each L t [] (nil_not h) a ha).2.1⟩) (arc_rest L t [] (nil_not h))
  rw [arc_whole] at h3
  intro z
  have : w ∈ miss L (ar L t + 1) t := List.mem_filter.mpr ⟨mem_wd L _ w h1 h2, by rw [h3]; rfl⟩
  rw [z] at this
  cases this
theorem N_ar {L t : List Nat} (h : L ≠ []) : N L (ar L t) t = 0 := by
  rw [← miss_len, none_miss h]
  rfl
theorem N_pos {L t : List Nat} (h : L ≠ []) : 0 < N L (ar L t + 1) t := by
  rw [← miss_len]
  have := List.length_pos_iff.mpr (some_miss (t := t) h)
  omega
theorem ar_read {L t w : List Nat} (h : L ≠ []) (hw : ∀ c ∈ w, c ∈ L) (hl : w.length = ar L t) : sub w t = true := by
  have := all_read L (arc L [] t).1 (arc L [] t).2 w (fun a ha => (arc_each L t [] (nil_not h) a ha).1) hw hl
  rwa [arc_whole] at this
end Ar
set_option Elab.async false
set_option linter.all false
set_option maxRecDepth 100000
set_option maxHeartbeats 4000000
/-! Rk: ranks of places; which places may go -/
namespace Rk
open Ar
theorem sub_right : ∀ (w x y : List Nat), sub w x = true → sub w (x ++ y) = true
  | [], x, y, _ => sub_nil _
  | a :: w, [], y, h => by cases h
  | a :: w, b :: x, y, h => by
    have h' : (if a = b then sub w x else sub (a :: w) x) = true := h
    show (if a = b then sub w (x ++ y) else sub (a :: w) (x ++ y)) = true
    by_cases q : a = b
    · rw [if_pos q] at h' ⊢
      exact sub_right w x y h'
    · rw [if_neg q] at h' ⊢
      exact sub_right (a :: w) x y h'
theorem sub_both : ∀ (u v x y : List Nat), sub u x = true → sub v y = true → sub (u ++ v) (x ++ y) = true
  | [], v, x, y, _, h => sub_app_left x v y h
  | a :: u, v, [], y, h, _ => by cases h
  | a :: u, v, b :: x, y, h, g => by
    have h' : (if a = b then sub u x else sub (a :: u) x) = true := h
    show (if a = b then sub (u ++ v) (x ++ y) else sub (a :: u ++ v) (x ++ y)) = true
    by_cases q : a = b
    · rw [if_pos q] at h' ⊢
      exact sub_both u v x y h' g
    · rw [if_neg q] at h' ⊢
      exact sub_both (a :: u) v x y h' g
theorem sub_split : ∀ (w x y : List Nat), sub w (x ++ y) = true → ∃ u v, w = u ++ v ∧ sub u x = true ∧ sub v y = true
  | w, [], y, h => ⟨[], w, rfl, rfl, h⟩
  | [], b :: x, y, _ => ⟨[], [], rfl, rfl, sub_nil _⟩
  | a :: w, b :: x, y, h => by
    have h' : (if a = b then sub w (x ++ y) else sub (a :: w) (x ++ y)) = true := h
    by_cases q : a = b
    · rw [if_pos q] at h'
      obtain ⟨u, v, e, h1, h2⟩ := sub_split w x y h'
      refine ⟨a :: u, v, by rw [e]; rfl, ?_, h2⟩
      show (if a = b then sub u x else sub (a :: u) x) = true
      rw [if_pos q]
      exact h1
    · rw [if_neg q] at h'
      obtain ⟨u, v, e, h1, h2⟩ := sub_split (a :: w) x y h'
      exact ⟨u, v, e, sub_more x b u h1, h2⟩
theorem sub_take {w x : List Nat} (h : sub w x = true) (k : Nat) : sub (w.take k) x = true := by
  induction x generalizing w k with
  | nil =>
    cases w with
    | nil => rw [List.take_nil]; rfl
    | cons a w => cases h
  | cons b x ih =>
    cases w with
    | nil => rw [List.take_nil]; rfl
    | cons a w =>
      cases k with
      | zero => rfl
      | succ k =>
        have h' : (if a = b then sub w x else sub (a :: w) x) = true := h
        show (if a = b then sub (w.take k) x else sub (a :: w.take k) x) = true
        by_cases q : a = b
        · rw [if_pos q] at h' ⊢
          exact ih h' k
        · rw [if_neg q] at h' ⊢
          exact ih h' (k + 1)
theorem sub_drop {w x : List Nat} (h : sub w x = true) (k : Nat) : sub (w.drop k) x = true := by
  induction k generalizing w with
  | zero => exact h
  | succ k ih =>
    cases w with
    | nil => rw [List.drop_nil]; exact h
    | cons a w => exact ih (sub_tail x a w h)
/-- w is read up to c, not ahead of it -/
def New (p : List Nat) (c : Nat) (w : List Nat) : Prop := sub w (p ++ [c]) = true ∧ sub w p = false
theorem New.last {p w : List Nat} {c : Nat} (h : New p c w) : ∃ u, w = u ++ [c] ∧ sub u p = true := by
  obtain ⟨h1, h2⟩ := h
  by_cases n : w = []
  · rw [n, sub_nil] at h2
    cases h2
  · have e := List.dropLast_concat_getLast n
    rw [← e, sub_snoc] at h1
    by_cases q : w.getLast n = c
    · rw [if_pos q] at h1
      exact ⟨w.dropLast, by rw [← q]; exact e.symm, h1⟩
    · rw [if_neg q, e, h2] at h1
      cases h1
theorem new_iff {p u : List Nat} {c : Nat} : New p c (u ++ [c]) ↔ sub u p = true ∧ sub (u ++ [c]) p = false := by
  unfold New
  rw [sub_snoc, if_pos rfl]
/-- the least size of a word that is new at c -/
def Rank (p : List Nat) (c k : Nat) : Prop := (∃ w, New p c w ∧ w.length = k) ∧ ∀ w, New p c w → k ≤ w.length
theorem rank_one {p : List Nat} {c : Nat} (h : c ∉ p) : Rank p c 1 := by
  refine ⟨⟨[c], (new_iff (u := [])).mpr ⟨sub_nil _, ?_⟩, rfl⟩, fun w n => ?_⟩
  · show sub [c] p = false
    rw [sub_cons, after_none.mpr h]
  · obtain ⟨u, rfl, _⟩ := n.last
    rw [List.length_append]
    exact Nat.le_add_left _ _
theorem rev_ind {P : List Nat → Prop} (h0 : P []) (h1 : ∀ s b, P s → P (s ++ [b])) : ∀ s, P s := fun s => by
  rw [← List.reverse_reverse s]
  induction s.reverse with
  | nil => exact h0
  | cons a l ih => rw [List.reverse_cons]; exact h1 _ _ ih
theorem sub_other {u x : List Nat} {c : Nat} : ∀ {s : List Nat}, c ∉ s → sub (u ++ [c]) (x ++ s) = sub (u ++ [c]) x := by
  intro s
  refine rev_ind (P := fun s => c ∉ s → sub (u ++ [c]) (x ++ s) = sub (u ++ [c]) x) ?_ (fun s b ih => ?_) s
  · intro _; rw [List.append_nil]
  · intro h
    rw [← List.append_assoc, sub_snoc, if_neg (fun z => h (by simp [z]))]
    exact ih fun z => h (by simp [z])
theorem first_new (u : List Nat) (q : List Nat) : ∀ (s : List Nat), sub u (q ++ s) = true → sub u q = false → ∃ x c y, s = x ++ c :: y ∧ New (q ++ x) c u := by
  intro s
  refine rev_ind (P := fun s => sub u (q ++ s) = true → sub u q = false → ∃ x c y, s = x ++ c :: y ∧ New (q ++ x) c u) ?_ (fun s b ih => ?_) s
  · intro h1 h2; rw [List.append_nil, h2] at h1; cases h1
  · intro h1 h2
    cases h : sub u (q ++ s) with
    | false => exact ⟨s, b, [], rfl, by rw [List.append_assoc]; exact h1, h⟩
    | true =>
      obtain ⟨x, c, y, e, n⟩ := ih h h2
      exact ⟨x, c, y ++ [b], by rw [e, List.append_assoc]; rfl, n⟩
/-- the rank behind the last c: one more than the least rank from there on -/
theorem rank_more {q s : List Nat} {c m : Nat} (hs : c ∉ s) (low : ∀ x b y, c :: s = x ++ b :: y → ∀ k, Rank (q ++ x) b k → m ≤ k) (some_ : ∃ x b y, c :: s = x ++ b :: y ∧ Rank (q ++ x) b m)
    (all : ∀ x b y, c :: s = x ++ b :: y → ∃ k, Rank (q ++ x) b k) : Rank (q ++ c :: s) c (m + 1) := by
  have same : ∀ u, sub (u ++ [c]) (q ++ c :: s) = sub u q := fun u => by
    have := sub_other (u := u) (x := q ++ [c]) hs
    rw [List.append_assoc] at this
    rw [show q ++ c :: s = q ++ ([c] ++ s) from rfl, this, sub_snoc, if_pos rfl]
  refine ⟨?_, fun w n => ?_⟩
  · obtain ⟨x, b, y, e, ⟨u, nu, ul⟩, _⟩ := some_
    refine ⟨u ++ [c], new_iff.mpr ⟨?_, ?_⟩, by rw [List.length_append, ul]; rfl⟩
    · rw [e, show q ++ (x ++ b :: y) = (q ++ x ++ [b]) ++ y from by simp]
      exact sub_right _ _ _ nu.1
    · rw [same]
      cases h : sub u q with
      | false => rfl
      | true =>
        have := sub_right u q x h
        rw [nu.2] at this
        cases this
  · obtain ⟨u, rfl, hu⟩ := n.last
    have nq : sub u q = false := by rw [← same]; exact n.2
    obtain ⟨x, b, y, e, nu⟩ := first_new u q (c :: s) hu nq
    obtain ⟨k, hk⟩ := all x b y e
    have h1 := low x b y e k hk
    have h2 := hk.2 u nu
    rw [List.length_append]
    show m + 1 ≤ u.length + 1
    omega
theorem sub_rev (w t : List Nat) : sub w.reverse t.reverse = sub w t := by
  have key : ∀ w t : List Nat, sub w t = true → sub w.reverse t.reverse = true := by
    intro w t
    induction t generalizing w with
    | nil =>
      intro h
      cases w with
      | nil => rfl
      | cons a w => cases h
    | cons b t ih =>
      intro h
      cases w with
      | nil => exact sub_nil _
      | cons a w =>
        have h' : (if a = b then sub w t else sub (a :: w) t) = true := h
        rw [List.reverse_cons, List.reverse_cons, sub_snoc]
        by_cases q : a = b
        · rw [if_pos q] at h' ⊢
          exact ih w h'
        · rw [if_neg q] at h' ⊢
          have := ih (a :: w) h'
          rw [List.reverse_cons] at this
          exact this
  cases h : sub w t with
  | true => exact key w t h
  | false =>
    cases g : sub w.reverse t.reverse with
    | false => rfl
    | true =>
      have := key _ _ g
      rw [List.reverse_reverse, List.reverse_reverse, h] at this
      cases this
/-- a place may go, up to words of d letters, just if its two ranks are more than d + 1 together -/
theorem may_go {p s : List Nat} {c x y : Nat} (hx : Rank p c x) (hy : Rank s.reverse c y) (d : Nat) : (∀ w : List Nat, w.length ≤ d → sub w (p ++ c :: s) = sub w (p ++ s)) ↔ d + 1 < x + y := by
  have back : ∀ v, New s.reverse c (v.reverse ++ [c]) ↔ sub v s = true ∧ sub (c :: v) s = false := fun v => by
    rw [new_iff, sub_rev, show v.reverse ++ [c] = (c :: v).reverse from by rw [List.reverse_cons], sub_rev]
  constructor
  · intro h
    apply Decidable.byContradiction
    intro z
    obtain ⟨w1, n1, l1⟩ := hx.1
    obtain ⟨w2, n2, l2⟩ := hy.1
    obtain ⟨u, rfl, hu⟩ := n1.last
    obtain ⟨v', rfl, hv'⟩ := n2.last
    obtain ⟨v, rfl⟩ : ∃ v : List Nat, v' = v.reverse := ⟨v'.reverse, by rw [List.reverse_reverse]⟩
    obtain ⟨hv, nv⟩ := (back v).mp n2
    rw [List.length_append] at l1 l2
    rw [List.length_reverse] at l2
    have l1' : u.length + 1 = x := l1
    have l2' : v.length + 1 = y := l2
    have hw := h (u ++ c :: v) (by rw [List.length_append, List.length_cons]; omega)
    have a1 : sub (u ++ c :: v) (p ++ c :: s) = true := sub_both u (c :: v) p (c :: s) hu (by
      show (if c = c then sub v s else sub (c :: v) s) = true
      rw [if_pos rfl]
      exact hv)
    rw [a1] at hw
    obtain ⟨a, b, e, ha, hb⟩ := sub_split _ _ _ hw.symm
    by_cases g : u.length + 1 ≤ a.length
    · have t1 : (u ++ c :: v).take (u.length + 1) = u ++ [c] := by
        rw [show u ++ c :: v = (u ++ [c]) ++ v from by simp, List.take_left' (by simp)]
      have t2 : (u ++ c :: v).take (u.length + 1) = a.take (u.length + 1) := by rw [e, List.take_append_of_le_length g]
      have := sub_take ha (u.length + 1)
      rw [← t2, t1, n1.2] at this
      cases this
    · have t1 : (u ++ c :: v).drop u.length = c :: v := List.drop_left
      have t2 : (u ++ c :: v).drop u.length = b.drop (u.length - a.length) := by
        rw [e, List.drop_append]
        rw [List.drop_of_length_le (show a.length ≤ u.length by omega)]
        rfl
      have := sub_drop hb (u.length - a.length)
      rw [← t2, t1, nv] at this
      cases this
  · intro h w wl
    cases g : sub w (p ++ s) with
    | true =>
      obtain ⟨a, b, rfl, ha, hb⟩ := sub_split _ _ _ g
      exact sub_both a b p (c :: s) ha (sub_more s c b hb)
    | false =>
      cases f : sub w (p ++ c :: s) with
      | false => rfl
      | true =>
        exfalso
        obtain ⟨a, b, rfl, ha, hb⟩ := sub_split _ _ _ f
        have nb : sub b s = false := by
          cases q : sub b s with
          | false => rfl
          | true => rw [sub_both a b p s ha q] at g; cases g
        cases b with
        | nil => rw [sub_nil] at nb; cases nb
        | cons z v =>
          have hb' : (if z = c then sub v s else sub (z :: v) s) = true := hb
          by_cases q : z = c
          · subst q
            rw [if_pos rfl] at hb'
            have h2 := hy.2 _ ((back v).mpr ⟨hb', nb⟩)
            rw [List.length_append, List.length_reverse] at h2
            have na : sub (a ++ [z]) p = false := by
              cases r : sub (a ++ [z]) p with
              | false => rfl
              | true =>
                have := sub_both (a ++ [z]) v p s r hb'
                rw [List.append_assoc] at this
                have e : a ++ ([z] ++ v) = a ++ z :: v := rfl
                rw [e, g] at this
                cases this
            have h1 := hx.2 _ (new_iff.mpr ⟨ha, na⟩)
            rw [List.length_append] at h1 wl
            rw [List.length_cons] at wl
            have h1' : x ≤ a.length + 1 := h1
            have h2' : y ≤ v.length + 1 := h2
            omega
          · rw [if_neg q, nb] at hb'
            cases hb'
end Rk
set_option Elab.async false
set_option linter.all false
set_option maxRecDepth 100000
set_option maxHeartbeats 4000000
/-! Rk2: the ranks of all places from the front, one after another -/
namespace Rk
theorem Rank.one {p : List Nat} {c k j : Nat} (h : Rank p c k) (g : Rank p c j) : k = j := by
  obtain ⟨⟨u, u1, u2⟩, u3⟩ := h
  obtain ⟨⟨v, v1, v2⟩, v3⟩ := g
  have a := u3 v v1
  have b := v3 u u1
  omega
/-- the ranks of the places of a text from the front -/
structure Fr (t ns : List Nat) : Prop where
  len : ns.length = t.length
  rank : ∀ i c n, t[i]? = some c → ns[i]? = some n → Rank (t.take i) c n
theorem Fr.nil : Fr [] [] := ⟨rfl, fun i c n h => by cases h⟩
theorem Fr.snoc {t ns : List Nat} {c n : Nat} (h : Fr t ns) (r : Rank t c n) : Fr (t ++ [c]) (ns ++ [n]) := by
  refine ⟨by rw [List.length_append, List.length_append, h.len]; rfl, fun i d m hd hm => ?_⟩
  have l := h.len
  rcases Nat.lt_trichotomy i t.length with z | z | z
  · rw [List.getElem?_append_left z] at hd
    rw [List.getElem?_append_left (by omega)] at hm
    rw [List.take_append_of_le_length (by omega)]
    exact h.rank i d m hd hm
  · subst z
    rw [List.getElem?_append_right (Nat.le_refl _), Nat.sub_self] at hd
    rw [← l, List.getElem?_append_right (Nat.le_refl _), Nat.sub_self] at hm
    cases hd
    cases hm
    rw [List.take_left]
    exact r
  · rw [List.getElem?_eq_none (by rw [List.length_append, List.length_singleton]; omega)] at hd
    cases hd
theorem fr_next {q s ns : List Nat} {c m : Nat} (h : Fr (q ++ c :: s) ns) (hs : c ∉ s) (mm : m ∈ ns.drop q.length) (ml : ∀ x ∈ ns.drop q.length, m ≤ x) : Rank (q ++ c :: s) c (1 + m) := by
  have l := h.len
  have at_ : ∀ x b y, c :: s = x ++ b :: y → ∃ n, n ∈ ns.drop q.length ∧ Rank (q ++ x) b n := fun x b y e => by
    have hb : (q ++ c :: s)[q.length + x.length]? = some b := by
      rw [e, List.getElem?_append_right (by omega), List.getElem?_append_right (by omega)]
      simp
    have lt := (List.getElem?_eq_some_iff.mp hb).1
    obtain ⟨n, hn⟩ : ∃ n, ns[q.length + x.length]? = some n := ⟨_, List.getElem?_eq_getElem (by omega)⟩
    have r := h.rank _ _ _ hb hn
    rw [e, ← List.append_assoc, show q.length + x.length = (q ++ x).length from by rw [List.length_append], List.take_left] at r
    refine ⟨_, ?_, r⟩
    refine List.mem_of_getElem? (i := x.length) ?_
    rw [List.getElem?_drop]
    simpa using hn
  rw [Nat.add_comm]
  refine rank_more (q := q) (s := s) (c := c) (m := m) hs (fun x b y e k hk => ?_) ?_ (fun x b y e => let ⟨n, _, r⟩ := at_ x b y e; ⟨n, r⟩)
  · obtain ⟨n, hn, r⟩ := at_ x b y e
    rw [hk.one r]
    exact ml n hn
  · obtain ⟨i, hi⟩ := List.getElem?_of_mem mm
    rw [List.getElem?_drop] at hi
    have li := (List.getElem?_eq_some_iff.mp hi).1
    have lt : i < (c :: s).length := by
      rw [l, List.length_append] at li
      omega
    have e : c :: s = (c :: s).take i ++ (c :: s)[i] :: (c :: s).drop (i + 1) := by
      rw [List.getElem_cons_drop, List.take_append_drop]
    refine ⟨(c :: s).take i, (c :: s)[i], (c :: s).drop (i + 1), e, ?_⟩
    have hb : (q ++ c :: s)[q.length + i]? = some (c :: s)[i] := by
      rw [List.getElem?_append_right (by omega), Nat.add_sub_cancel_left]
      exact List.getElem?_eq_getElem lt
    have r := h.rank _ _ _ hb hi
    rw [List.take_append, List.take_of_length_le (by omega), Nat.add_sub_cancel_left] at r
    exact r
end Rk
set_option Elab.async false
set_option linter.all false
set_option maxRecDepth 100000
set_option maxHeartbeats 4000000
/-! Rd: the texts that are read in a text, by size, in order -/
namespace Rd
open Ar Lx
/-- the next size: each text of the last with each letter behind it, if it is read -/
def longer (L t : List Nat) (ws : List (List Nat)) : List (List Nat) := ws.flatMap fun w => (L.filter fun c => sub (w ++ [c]) t).map fun c => w ++ [c]
def level (L t : List Nat) : Nat → List (List Nat)
  | 0 => [[]]
  | k + 1 => longer L t (level L t k)
def reads (L t : List Nat) : Nat → List (List Nat)
  | 0 => [[]]
  | k + 1 => reads L t k ++ level L t (k + 1)
theorem sub_init {w t : List Nat} {c : Nat} (h : sub (w ++ [c]) t = true) : sub w t = true := by
  have := Rk.sub_take h w.length
  rwa [List.take_left] at this
theorem filter_flat {α β : Type} (f : α → List β) (p : β → Bool) : ∀ l : List α, (l.flatMap f).filter p = l.flatMap fun a => (f a).filter p
  | [] => rfl
  | a :: l => by rw [List.flatMap_cons, List.filter_append, filter_flat f p l, List.flatMap_cons]
theorem flat_filter {α β : Type} (f : α → List β) (p : α → Bool) (h : ∀ a, p a = false → f a = []) : ∀ l : List α, (l.filter p).flatMap f = l.flatMap f
  | [] => rfl
  | a :: l => by
    rw [List.filter_cons]
    cases q : p a with
    | true => rw [if_pos rfl, List.flatMap_cons, List.flatMap_cons, flat_filter f p h l]
    | false => rw [if_neg (by decide), List.flatMap_cons, h a q, flat_filter f p h l]; rfl
theorem level_eq (L t : List Nat) : ∀ k, level L t k = (wd L k).filter fun w => sub w t
  | 0 => by
    rw [wd]
    show [[]] = _
    rw [List.filter_cons_of_pos (p := fun w => sub w t) (sub_nil t)]
    rfl
  | k + 1 => by
    show longer L t (level L t k) = _
    unfold longer
    rw [level_eq L t k, flat_filter _ _ (fun w h => ?_), wd, filter_flat]
    · congr 1
      funext w
      rw [List.filter_map]
      rfl
    · have : (L.filter fun c => sub (w ++ [c]) t) = [] := List.filter_eq_nil_iff.mpr fun c _ z => by
        rw [sub_init z] at h
        cases h
      rw [this]
      rfl
theorem sub_letters : ∀ {t w : List Nat}, sub w t = true → ∀ c ∈ w, c ∈ t
  | _, [], _, c, hc => by cases hc
  | [], _ :: _, h, _, _ => by cases h
  | b :: t, a :: w, h, c, hc => by
    have h' : (if a = b then sub w t else sub (a :: w) t) = true := h
    by_cases q : a = b
    · rw [if_pos q] at h'
      rcases List.mem_cons.mp hc with z | z
      · rw [z, q]; exact List.mem_cons_self
      · exact List.mem_cons_of_mem _ (sub_letters h' c z)
    · rw [if_neg q] at h'
      exact List.mem_cons_of_mem _ (sub_letters h' c hc)
/-- letters that do not stand in the text bring nothing -/
theorem wd_within (A t : List Nat) : ∀ k, ((wd A k).filter fun w => sub w t) = (wd (A.filter fun c => decide (c ∈ t)) k).filter fun w => sub w t
  | 0 => rfl
  | k + 1 => by
    have key : ∀ L : List Nat, ((wd L (k + 1)).filter fun w => sub w t) = ((wd L k).filter fun w => sub w t).flatMap fun w => (L.filter fun c => sub (w ++ [c]) t).map fun c => w ++ [c] := fun L => by
      have := level_eq L t (k + 1)
      rw [← this, ← level_eq L t k]
      rfl
    rw [key, key, wd_within A t k]
    congr 1
    funext w
    rw [List.filter_filter]
    congr 1
    refine List.filter_congr fun c hc => ?_
    cases h : sub (w ++ [c]) t with
    | false => rfl
    | true => rw [decide_eq_true (sub_letters h c (by simp))]; rfl
theorem reads_mem {L t : List Nat} : ∀ {n : Nat} {w : List Nat}, w ∈ reads L t n ↔ w.length ≤ n ∧ (∀ c ∈ w, c ∈ L) ∧ sub w t = true
  | 0, w => by
    show w ∈ [[]] ↔ _
    rw [List.mem_singleton]
    constructor
    · rintro rfl
      exact ⟨Nat.le_refl _, (fun c hc => by cases hc), sub_nil _⟩
    · rintro ⟨h, _, _⟩
      exact List.length_eq_zero_iff.mp (by omega)
  | n + 1, w => by
    show w ∈ reads L t n ++ level L t (n + 1) ↔ _
    rw [List.mem_append, reads_mem, level_eq, List.mem_filter]
    constructor
    · rintro (⟨h1, h2, h3⟩ | ⟨h1, h2⟩)
      · exact ⟨by omega, h2, h3⟩
      · exact ⟨by rw [wd_size L _ w h1]; exact Nat.le_refl _, wd_over L _ w h1, h2⟩
    · rintro ⟨h1, h2, h3⟩
      by_cases q : w.length = n + 1
      · exact .inr ⟨mem_wd L _ w q h2, h3⟩
      · exact .inl ⟨by omega, h2, h3⟩
theorem reads_long {L t : List Nat} {n : Nat} (h : t.length ≤ n) : ∀ k, reads L t (n + k) = reads L t n
  | 0 => rfl
  | k + 1 => by
    have : level L t (n + k + 1) = [] := by
      rw [level_eq]
      refine List.filter_eq_nil_iff.mpr fun w hw z => ?_
      have := sub_len t w z
      rw [wd_size L _ w hw] at this
      omega
    show reads L t (n + k) ++ level L t (n + k + 1) = _
    rw [this, List.append_nil, reads_long h k]
theorem reads_cap (L t : List Nat) (d : Nat) : reads L t (min d t.length) = reads L t d := by
  by_cases h : d ≤ t.length
  · rw [Nat.min_eq_left h]
  · rw [Nat.min_eq_right (by omega)]
    have := reads_long (L := L) (t := t) (Nat.le_refl _) (d - t.length)
    rw [show t.length + (d - t.length) = d from by omega] at this
    exact this.symm
theorem reads_within (A t : List Nat) : ∀ n, reads (A.filter fun c => decide (c ∈ t)) t n = reads A t n
  | 0 => rfl
  | n + 1 => by
    show reads _ t n ++ level _ t (n + 1) = reads A t n ++ level A t (n + 1)
    rw [reads_within A t n, level_eq, level_eq, ← wd_within]
theorem reads_congr {A t s : List Nat} : ∀ {n : Nat}, (∀ w : List Nat, w.length ≤ n → sub w t = sub w s) → reads A t n = reads A s n
  | 0, _ => rfl
  | n + 1, h => by
    show reads A t n ++ level A t (n + 1) = reads A s n ++ level A s (n + 1)
    rw [reads_congr fun w hw => h w (by omega), level_eq, level_eq]
    congr 1
    exact List.filter_congr fun w hw => h w (by rw [wd_size A _ w hw]; exact Nat.le_refl _)
/-- the lists are the same just if the same texts of up to d letters are read -/
theorem reads_same {A t s : List Nat} {d : Nat} (ht : ∀ c ∈ t, c ∈ A) (hs : ∀ c ∈ s, c ∈ A) : reads A t d = reads A s d ↔ ∀ w : List Nat, w.length ≤ d → sub w t = sub w s := by
  refine ⟨fun e w wl => ?_, reads_congr⟩
  cases h : sub w t with
  | true =>
    have : w ∈ reads A t d := reads_mem.mpr ⟨wl, fun c hc => ht c (sub_letters h c hc), h⟩
    rw [e] at this
    exact (reads_mem.mp this).2.2.symm
  | false =>
    cases g : sub w s with
    | false => rfl
    | true =>
      have : w ∈ reads A s d := reads_mem.mpr ⟨wl, fun c hc => hs c (sub_letters g c hc), g⟩
      rw [← e] at this
      rw [(reads_mem.mp this).2.2] at h
      cases h
end Rd
set_option Elab.async false
set_option linter.all false
set_option maxRecDepth 100000
set_option maxHeartbeats 4000000
/-! Ty1: a tuple is no dict -/
namespace Ty
open PySem PySem.Spec PyProof.Rows L2
open SeqAt MeetsSeq AutoSeq1
theorem dict_declines (b l : Addr) (es : Array DictEntry) (ep : Nat) (items : Array Value) (n2 : Nat) (dd dd2 : Option Addr) (sl sl2 : Array (Option Value)) :
    Meets (Builtin.«dict.__eq__» ⟨[.ref b, .ref l], []⟩) (fun _ R s => s.heap.get? b = some { cls := .type "dict", dict := dd, data := .dict es ep, slots := sl } ∧ s.heap.get? l = some { cls := .type "tuple", dict := dd2, data := .seq items n2, slots := sl2 } ∧ R (.ok (.ret .notImplemented)) s) := by
  refine .of_wp fun prog w A R s h => ?_
  obtain ⟨hb, hl, h⟩ := h
  unfold Builtin.«dict.__eq__»
  refine wpAny_bind (wpAny_of_eq (a := (Value.ref b, Value.ref l)) rfl ?_)
  try dsimp only
  refine wpAny_bind (wpAny_isInstance (T := "tuple") (U := "dict") (b := false) ⟨_, hl, rfl⟩ F.sub_tuple_dict ?_)
  rw [if_pos (show (!false) = true from rfl)]
  exact wpAny_bind (wpAny_rule (wpAny_pure ⟨_, rfl, h⟩))
theorem tuple_declines (l b : Addr) (items : Array Value) (n : Nat) (es : Array DictEntry) (ep : Nat) (dd dd2 : Option Addr) (sl sl2 : Array (Option Value)) :
    Meets (Builtin.«tuple.__eq__» ⟨[.ref l, .ref b], []⟩) (fun _ R s => s.heap.get? l = some { cls := .type "tuple", dict := dd, data := .seq items n, slots := sl } ∧ s.heap.get? b = some { cls := .type "dict", dict := dd2, data := .dict es ep, slots := sl2 } ∧ R (.ok (.ret .notImplemented)) s) :=
  .of_wp fun prog w A R s h => by
    obtain ⟨hp, g, d, tk, os⟩ := s
    obtain ⟨hl, hb, h⟩ := h
    have f1 := F.sub_dict_tuple
    wp_walk using wpAny_loadPart' hl, wpAny_loadPart' hb
    exact ⟨_, rfl, h⟩
section
variable {A : Around} {s : Shared}
theorem tuple_dict {l b : Addr} {items : Array Value} {od : Obj} {es : Array DictEntry} {ep : Nat} (hl : s.heap.IsTuple l items) (hb : s.heap.get? b = some od) (hc : od.cls = .type "dict") (hd : od.data = .dict es ep) (hu : A.units < cLine) : RcAt A s (.ref l) (.ref b) false := by
  obtain ⟨⟨cls, dd, data, sl⟩, ho, hc1, n, hd1⟩ := id hl
  obtain ⟨cls2, dd2, data2, sl2⟩ := od
  simp only at hc hd hc1 hd1
  subst hc hd hc1 hd1
  have hne : l ≠ b := fun e => by
    subst e
    have z := congrArg Obj.cls (Option.some.inj (ho.symm.trans hb))
    exact absurd z (by simp)
  refine fun prog w E Q h => ?_
  exact rc_eq_decline_or (k := false) ⟨_, ho, rfl⟩ ⟨_, hb, rfl⟩ (by decide) F.sub_dict_tuple F.slot_tuple_eq F.slot_dict_eq_refl
    (fun _ hq => call_meets F.slot_tuple_eq ⟨_, ho, rfl⟩ F.entry_tuple_eq (F.args_tuple_eq_2 _ _) (tuple_declines l b items n es ep dd dd2 sl sl2) ⟨ho, hb, hq⟩)
    (fun _ hq => call_meets F.slot_dict_eq_refl ⟨_, hb, rfl⟩ F.entry_dict_eq (F.args_dict_eq_2 _ _) (dict_declines b l es ep items n dd2 dd sl2 sl) ⟨hb, ho, hq⟩)
    (fun _ hq => wpAny_isSame_ref_other' hne ho hb (by simp) hq) (.inr hu) h
end
/-- x == y of data, or of a tuple and a dict -/
def rEqO (K : PySem.W.Frag) : R2 := fun x y H Q => rEqD K x y H Q ∨ ∃ a xs b kvs, x = .ref a ∧ y = .ref b ∧ SqT K H a xs ∧ H b = some (.dK kvs) ∧ Q (.bl false) H
theorem op_eqO {X : Cx} (hu : X.A.units + 64 < cLine) : OpR X (compareOp .Eq) (rEqO X.K) := by
  intro pins s σ H x y v u Q I rx ry h
  rcases h with h | ⟨a, xs, b, kvs, rfl, rfl, hx, hy, q⟩
  · exact op_eqD hu pins s σ H x y v u Q I rx ry h
  · cases (show v = Value.ref a from rx)
    cases (show u = Value.ref b from ry)
    obtain ⟨its, r, ht, _⟩ := I.tuple hx
    obtain ⟨_, _, _, _, o, es, ep, h2, ex, h3, _⟩ := (show ObjOk X.prog X.w H s.heap b (.dK kvs) from I.hok b _ hy)
    exact tuple_dict ht h2 ex.1 h3 (by omega) X.prog X.w X.xe _ ⟨.bl false, H, I, rfl, q⟩
end Ty
set_option Elab.async false
set_option linter.all false
set_option maxRecDepth 100000
set_option maxHeartbeats 4000000
/-! Ty2: a tuple turned about -/
namespace HT
open PySem PySem.Spec PyProof.Rows
section
variable {prog : Program} {w : World} {A : Around} {E : Value → Shared → Prop} {s : Shared}
theorem applied_back {sl : Addr} {vl vu vs : Value} {n : Nat} {Q : Int × Int × Nat → Shared → Prop} (hs : s.heap.IsSliceOf sl vl vu vs) (pl : IsPart vl none) (pu : IsPart vu none) (ps : IsPart vs (some (-1)))
    (h : Q ((n : Int) - 1, -1, n) s) : wpAny (model prog w) A (Builtin.Slice.sliceApplied (.ref sl) (pure (n : Int))) Q E s := by
  obtain ⟨os, hos, hcs, hds⟩ := id hs
  unfold Builtin.Slice.sliceApplied Builtin.Slice.sliceFields
  refine wpAny_bind (wpAny_bind (wpAny_field hos hds (x := vl) rfl (wpAny_bind (wpAny_field hos hds (x := vu) rfl (wpAny_bind (wpAny_field hos hds (x := vs) rfl (wpAny_pure ?_)))))))
  refine wpAny_bind (slicePart_ ps ?_)
  show wpAny _ _ (if ((-1 : Int) == 0) = true then _ else _) _ _ s
  rw [if_neg (by decide)]
  refine wpAny_bind (slicePart_ pl (wpAny_bind (slicePart_ pu (wpAny_bind (wpAny_pure ?_)))))
  show wpAny _ _ (pure ((n : Int) - 1, (-1 : Int), Builtin.Slice.slicePlaces ((n : Int) - 1) (-1) (-1))) _ _ s
  have e : Builtin.Slice.slicePlaces ((n : Int) - 1) (-1) (-1) = n := by
    unfold Builtin.Slice.slicePlaces
    have h1 : ¬ ((-1 : Int) > 0) := by decide
    simp only [h1, if_false]
    by_cases z : (n : Int) - 1 > -1
    · rw [if_pos z, show (-(-1) : Int) = 1 by decide, Int.ediv_one]
      omega
    · rw [if_neg z]
      omega
  rw [e]
  exact wpAny_pure h
theorem pick_back (xs : Array Value) : ((List.range xs.size).filterMap fun (m : Nat) => xs[(((xs.size : Int) - 1) + (m : Int) * (-1)).toNat]?).toArray = xs.toList.reverse.toArray := by
  have e : ((List.range xs.size).filterMap fun (m : Nat) => xs[(((xs.size : Int) - 1) + (m : Int) * (-1)).toNat]?) = ((List.range xs.size).map fun m => xs.size - 1 - m).filterMap (xs[·]?) := by
    rw [List.filterMap_map]
    congr 1
    funext m
    show _ = xs[xs.size - 1 - m]?
    congr 1
    omega
  rw [e, PySem.W.krv_range, List.filterMap_reverse, PySem.W.krv_all]
theorem getItem_tuple_back {t sl : Addr} {items : Array Value} {vl vu vs : Value} {Q : Value → Shared → Prop} (ht : IsTup s.heap t items) (hs : s.heap.IsSliceOf sl vl vu vs) (pl : IsPart vl none) (pu : IsPart vu none) (ps : IsPart vs (some (-1)))
    (h : Q (.ref s.heap.objs.size) { s with heap := s.heap.push { cls := .type "tuple", data := .seq items.toList.reverse.toArray } })
    (hsz : items.size ≤ sizeLine) : wpAny (model prog w) A (getItem (.ref t) (.ref sl)) Q E s := by
  have ok : sizeOk (.seq items.toList.reverse.toArray) := by
    show items.toList.reverse.toArray.size ≤ sizeLine
    rw [List.size_toArray, List.length_reverse, Array.length_toList]
    exact hsz
  obtain ⟨os, hos, hcs, hds⟩ := id hs
  have isSlice : s.TypeIs (.ref sl) "slice" := ⟨os, hos, hcs⟩
  unfold getItem
  try with_reducible refine wpAny_holding ?_
  first | refine wpAny_bind (wpAny_pure ?_) | skip
  refine wpAny_bind (wpAny_sequenceKey ht.typeIs (by decide) ?_)
  refine wpAny_bind (wpAny_callSpecial?_slot (name := Str.ofString "__getitem__") ht.typeIs slot_tuple_getitem (wpAny_call_entry slot_tuple_getitem ht.typeIs entry_tuple_getitem ?_ (args_tuple_getitem _ _)))
  show wpAny _ _ (Builtin.Tuple.tupleItemsOf (.ref t) >>= _) _ _ s
  refine wpAny_bind (tupleItemsOf_ ht (wpAny_bind (wpAny_typeOf isSlice ?_)))
  rw [if_pos (by decide)]
  refine wpAny_bind (applied_back hs pl pu ps ?_)
  show wpAny _ _ (if ((((items.size : Int) - 1) == 0 && (-1 : Int) == 1 && items.size == items.size) = true) then _ else _) _ _ s
  rw [if_neg (by
    intro q
    rw [Bool.and_eq_true, Bool.and_eq_true] at q
    exact absurd q.1.2 (by decide)), pick_back]
  first
    | exact wpAny_bind (m := Builtin.Tuple.tupleExact _) (wpAny_newObj_type (wpAny_pure ⟨_, rfl, wpAny_pure h⟩) ok)
    | exact wpAny_bind (m := Builtin.Tuple.tupleExact _) (wpAny_newObj_type (wpAny_bind (wpAny_pure (wpAny_pure ⟨_, rfl, wpAny_pure h⟩))) ok)
    | exact wpAny_bind (wpAny_bind (m := Builtin.Tuple.tupleExact _) (wpAny_newObj_type (wpAny_pure (wpAny_pure ⟨_, rfl, wpAny_pure h⟩)) ok))
    | exact wpAny_bind (wpAny_bind (m := Builtin.Tuple.tupleExact _) (wpAny_newObj_type (wpAny_pure ⟨_, rfl, wpAny_pure h⟩) ok))
end
end HT
namespace Ty
open PySem PySem.Spec PyProof.Rows L2
def tRevT (K : PySem.W.Frag) (te : TE) (th : TO) : TE := fun σ H Q => te σ H fun x H1 => th σ H1 fun o H2 => ∃ a xs, x = .ref a ∧ o = some (-1) ∧ SqT K H2 a xs ∧ ∀ p, H2 p = none → Q (.ref p) (upd H2 p (.tup xs.reverse))
theorem pe_revT {X : Cx} {e k : Expr} {te : TE} {th : TO} {p3 pos : Pos} (he : PE X e te) (hk : PO X (some k) th) : PE X (.Subscript e (.Slice none none (some k) p3) pos) (tRevT X.K te th) := by
  refine ⟨fun pins s σ H Q I h => ?_⟩
  refine Subscript_ (thn (he.run pins s σ H _ I h) fun v s1 ⟨x, H1, I1, r1, q1⟩ => ?_)
  refine wpAny_Slice (thn (po_none.run pins s1 σ H1 (fun o H2 => o = none ∧ H2 = H1) I1 ⟨rfl, rfl⟩) fun vl s2 ⟨l, H2, I2, pl, el, e2⟩ => ?_)
  subst el e2
  refine thn (po_none.run pins s2 σ H2 (fun o H3 => o = none ∧ H3 = H2) I2 ⟨rfl, rfl⟩) fun vu s3 ⟨u, H3, I3, pu, eu, e3⟩ => ?_
  subst eu e3
  refine thn (hk.run pins s3 σ H3 _ I3 q1) fun vs s4 ⟨o, H4, I4, ps, q2⟩ => ?_
  obtain ⟨a, xs, rfl, rfl, hx, q⟩ := q2
  cases (show v = Value.ref a from r1)
  have I5 : L2.Inv X pins σ H4 { s4 with heap := s4.heap.push { cls := .type "slice", data := .fields #[vl, vu, vs] } } := I4.kept (t' := s4.toks) fun b ob q => Heap.get?_push_of_some _ q
  obtain ⟨its, r, ht, hz⟩ := I5.tuple hx
  have len := r.length
  show wpAny (model X.prog X.w) X.A (subscriptTail e (.Slice none none (some k) p3) (.ref a) (.ref s4.heap.objs.size)) (EP X pins σ Q) X.xe { s4 with heap := s4.heap.push { cls := .type "slice", data := .fields #[vl, vu, vs] } }
  refine tail_any (ops := [.ref a, .ref s4.heap.objs.size]) ht.typeIs (PyProof.Rows.slot_tuple_getitem.lookup) ?_ (by with_unfolding_all rfl)
  refine HT.getItem_tuple_back ht (Heap.IsSliceOf.new _ vl vu vs) pl pu ps ?_ (by rw [List.size_toArray]; omega)
  refine ⟨.ref _, _, I5.laid (t' := s4.toks) (o := .tup xs.reverse) (fun b ob q => Heap.get?_push_of_some _ q) (Nat.le_refl _) ?_, rfl, q _ (I5.hok.fresh (Nat.le_refl _))⟩
  exact ⟨by rw [List.length_reverse]; exact hz, _, r.reverse, ⟨_, Heap.get?_push_size _ rfl, rfl, _, rfl⟩⟩
end Ty
set_option Elab.async false
set_option linter.all false
set_option maxRecDepth 100000
set_option maxHeartbeats 4000000
/-! Ty3: loops over a text and any tuple; data that repr tells apart -/
namespace Ty
open PySem PySem.Spec PyProof.Rows L2 Evl Bx Rx
/-- for c, x in zip(a text, a tuple) -/
theorem forZipSTV {K : PySem.W.Frag} {σ : L2.St} {H : Hp} {D : Ends} {tu : TS} {ta : TA} {j k : Nat} {a : Addr} {u : List Nat} {xs : List V} (h : EvA ta σ H [tx u, .ref a]) (ht : SqT K H a xs) (hl : u.length = xs.length) (Pv : Nat → L2.St → Hp → Prop) (h0 : ∀ H1, Ex H H1 → Pv 0 σ H1)
    (hq : ∀ i σ' H', Pv i σ' H' → Ex H H') (hm : ∀ i σ' H' H2, Ex H' H2 → Pv i σ' H' → Pv i σ' H2)
    (hs : ∀ i c x σ' H', u[i]? = some c → xs[i]? = some x → Pv i σ' H' → tu { D with nx := Pv (i + 1), ct := Pv (i + 1), bk := D.nx } ((σ'.set j (some (tx [c]))).set k (some x)) H')
    (hd : ∀ σ' H', Pv u.length σ' H' → D.nx σ' H') : tFor (iZipST K ta) (gTup K 2 (gCons (gName j) (gCons (gName k) gNil))) tu D σ H :=
  h H (Ex.refl H) _ fun H1 e => ⟨mk u, a, _, rfl, ex_t e ht, by
    have hu : (u.map fun c => tx [c]) = (Sx.sgs (mk u)).map V.str := by rw [sgs_mk, List.map_map] <;> rfl
    have hz : ((Sx.sgs (mk u)).map V.str).length = u.length := by rw [← hu, List.length_map]
    refine for_zipF (xs := (Sx.sgs (mk u)).map V.str) (ys := xs) (by rw [hz, hl]) Pv (h0 H1 e) (fun i σ' H' p => ⟨rfl, ex_t (hq i σ' H' p) ht⟩) (fun i x y T σ' H' hx hy p hT => ?_) (fun σ' H' p => hd σ' H' (by rw [hz] at p; exact p))
    rw [← hu, List.getElem?_map] at hx
    cases hc : u[i]? with
    | none => rw [hc] at hx; cases hx
    | some c =>
      rw [hc] at hx
      obtain rfl : tx [c] = x := Option.some.inj hx
      exact ⟨T, _, rfl, .inl (.inl upd_same), rfl, _, _, rfl, _, _, rfl, rfl, hs i c y σ' _ hc hy (hm i σ' H' _ (Ex.new hT) p)⟩⟩
mutual
theorem dp_ex {K : PySem.W.Frag} {H H' : Hp} (e : Ex H H') : ∀ {v : V} {d : PyData}, Dp K H v d → Dp K H' v d
  | _, _, .non => .non
  | _, _, .bl b => .bl b
  | _, _, .int i => .int i
  | _, _, .str z => .str z
  | _, _, .lst s a => .lst (ex_l e s) (dpAll_ex e a)
  | _, _, .tup s a => .tup (ex_t e s) (dpAll_ex e a)
theorem dpAll_ex {K : PySem.W.Frag} {H H' : Hp} (e : Ex H H') : ∀ {vs : List V} {ds : List PyData}, DpAll K H vs ds → DpAll K H' vs ds
  | _, _, .nil => .nil
  | _, _, .cons a b => .cons (dp_ex e a) (dpAll_ex e b)
end
theorem dpAll_app {K : PySem.W.Frag} {H : Hp} : ∀ {vs : List V} {ds : List PyData} {ws : List V} {es : List PyData}, DpAll K H vs ds → DpAll K H ws es → DpAll K H (vs ++ ws) (ds ++ es)
  | _, _, _, _, .nil, b => b
  | _, _, _, _, .cons a r, b => .cons a (dpAll_app r b)
/-! ### whole numbers against what equals them -/
theorem eqv_ints : ∀ (ns : List Int) (es : List PyData), PyData.eqvAll (ns.map .int) es = true → es = ns.map .int ∨ ∃ b, PyData.bool b ∈ es
  | [], [], _ => .inl rfl
  | [], _ :: _, h => by simp [PyData.eqvAll] at h
  | _ :: _, [], h => by simp [PyData.eqvAll] at h
  | n :: ns, e :: es, h => by
    have h' : (PyData.eqv (.int n) e && PyData.eqvAll (ns.map .int) es) = true := h
    rw [Bool.and_eq_true] at h'
    obtain ⟨h1, h2⟩ := h'
    cases e with
    | int m =>
      have e1 : n = m := eq_of_beq h1
      subst e1
      rcases eqv_ints ns es h2 with z | ⟨b, z⟩
      · exact .inl (by rw [z]; rfl)
      · exact .inr ⟨b, List.mem_cons_of_mem _ z⟩
    | bool b => exact .inr ⟨b, List.mem_cons_self⟩
    | none => simp [PyData.eqv] at h1
    | str _ => simp [PyData.eqv] at h1
    | list _ => simp [PyData.eqv] at h1
    | tuple _ => simp [PyData.eqv] at h1
    | dict _ => simp [PyData.eqv] at h1
theorem eqv_bits : ∀ (ns : List Int) (es : List PyData), PyData.eqvAll (ns.map .int) es = true → es.length = ns.length ∧ ∀ e ∈ es, (∃ n ∈ ns, e = .int n) ∨ ∃ b, e = .bool b
  | [], [], _ => ⟨rfl, by simp⟩
  | [], _ :: _, h => by simp [PyData.eqvAll] at h
  | _ :: _, [], h => by simp [PyData.eqvAll] at h
  | n :: ns, e :: es, h => by
    have h' : (PyData.eqv (.int n) e && PyData.eqvAll (ns.map .int) es) = true := h
    rw [Bool.and_eq_true] at h'
    obtain ⟨h1, h2⟩ := h'
    obtain ⟨i1, i2⟩ := eqv_bits ns es h2
    refine ⟨by rw [List.length_cons, List.length_cons, i1], fun x hx => ?_⟩
    rcases List.mem_cons.mp hx with z | z
    · subst z
      cases x with
      | int m =>
        have e1 : n = m := eq_of_beq h1
        exact .inl ⟨n, List.mem_cons_self, by rw [e1]⟩
      | bool b => exact .inr ⟨b, rfl⟩
      | none => simp [PyData.eqv] at h1
      | str _ => simp [PyData.eqv] at h1
      | list _ => simp [PyData.eqv] at h1
      | tuple _ => simp [PyData.eqv] at h1
      | dict _ => simp [PyData.eqv] at h1
    · rcases i2 x z with ⟨m, hm, e⟩ | e
      · exact .inl ⟨m, List.mem_cons_of_mem _ hm, e⟩
      · exact .inr e
theorem shownAll_mem : ∀ {xs : List PyData} {t : Str}, t ∈ PyData.shownAll xs ↔ ∃ x ∈ xs, t = x.shown
  | [], t => by simp [PyData.shownAll]
  | x :: xs, t => by
    simp only [PyData.shownAll, List.mem_cons, shownAll_mem (xs := xs)]
    constructor
    · rintro (h | ⟨y, hy, h⟩)
      · exact ⟨x, .inl rfl, h⟩
      · exact ⟨y, .inr hy, h⟩
    · rintro ⟨y, rfl | hy, h⟩
      · exact .inl h
      · exact .inr ⟨y, hy, h⟩
theorem e_in_tuple (xs : List PyData) : 101 ∈ (PyData.tuple xs).shown.cps.toList ↔ ∃ x ∈ xs, 101 ∈ x.shown.cps.toList := by
  have hs : (PyData.tuple xs).shown = tupleText (PyData.shownAll xs) := by simp only [PyData.shown]
  rw [hs]
  unfold tupleText
  rw [mem_cps_append, mem_cps_append, mem_join, signs_lparen, signs_sep]
  constructor
  · rintro ((h | h) | h)
    · simp at h
    · rcases h with ⟨t, ht, hc⟩ | ⟨_, h⟩
      · obtain ⟨x, hx, rfl⟩ := shownAll_mem.mp ht
        exact ⟨x, hx, hc⟩
      · simp at h
    · exfalso
      split at h
      · rw [show ((",)" : String) : Str).cps.toList = [44, 41] by decide] at h
        simp at h
      · rw [show ((")" : String) : Str).cps.toList = [41] by decide] at h
        simp at h
  · rintro ⟨x, hx, hc⟩
    exact .inl (.inr (.inl ⟨_, shownAll_mem.mpr ⟨x, hx, rfl⟩, hc⟩))
theorem strict {ns : List Int} {es : List PyData} (h : PyData.eqvAll (ns.map .int) es = true) (hs : (PyData.tuple (ns.map .int)).shown = (PyData.tuple es).shown) : es = ns.map .int := by
  rcases eqv_ints ns es h with z | ⟨b, hb⟩
  · exact z
  · exfalso
    have h1 : 101 ∈ (PyData.tuple es).shown.cps.toList := (e_in_tuple es).mpr ⟨_, hb, (mem_shown_bool 101 b).mpr (by cases b <;> simp)⟩
    rw [← hs, e_in_tuple] at h1
    obtain ⟨x, hx, hc⟩ := h1
    obtain ⟨n, _, rfl⟩ := List.mem_map.mp hx
    exact shown_int_free' ⟨by decide, by decide⟩ n hc
/-! ### how long such a text is -/
theorem join_le (sep : Str) (k : Nat) : ∀ ts : List Str, (∀ t ∈ ts, t.length ≤ k) → (Str.join sep ts).length ≤ ts.length * (k + sep.length)
  | [], _ => by rw [join_nil]; exact Nat.zero_le _
  | [t], h => by
    rw [join_one]
    have := h t List.mem_cons_self
    simp only [List.length_cons, List.length_nil]
    omega
  | t :: u :: r, h => by
    rw [join_cons_cons]
    have h1 := h t List.mem_cons_self
    have ih := join_le sep k (u :: r) fun x hx => h x (List.mem_cons_of_mem _ hx)
    have e : (t ++ sep ++ Str.join sep (u :: r)).length = t.length + sep.length + (Str.join sep (u :: r)).length := by
      show (t ++ sep ++ Str.join sep (u :: r)).cps.size = t.cps.size + sep.cps.size + (Str.join sep (u :: r)).cps.size
      rw [← Array.length_toList, cps_toList_append, cps_toList_append, List.length_append, List.length_append]
      rfl
    rw [e]
    simp only [List.length_cons] at ih ⊢
    rw [Nat.add_mul (r.length + 1) 1]
    omega
theorem tuple_le {xs : List PyData} {k : Nat} (h : ∀ x ∈ xs, x.shown.length ≤ k) : (PyData.tuple xs).shown.length ≤ xs.length * (k + 2) + 3 := by
  have hs : (PyData.tuple xs).shown = tupleText (PyData.shownAll xs) := by simp only [PyData.shown]
  rw [hs]
  have hl : ∀ ys : List PyData, (PyData.shownAll ys).length = ys.length := by
    intro ys
    induction ys with
    | nil => rfl
    | cons y ys ih => simp only [PyData.shownAll, List.length_cons, ih]
  have j := join_le ", " k (PyData.shownAll xs) fun t ht => by
    obtain ⟨x, hx, rfl⟩ := shownAll_mem.mp ht
    exact h x hx
  rw [hl] at j
  have e2 : (((", " : String) : Str)).length = 2 := by decide
  rw [e2] at j
  unfold tupleText
  have e : ∀ a b c : Str, (a ++ b ++ c).length = a.length + b.length + c.length := by
    intro a b c
    show (a ++ b ++ c).cps.size = a.cps.size + b.cps.size + c.cps.size
    rw [← Array.length_toList, cps_toList_append, cps_toList_append, List.length_append, List.length_append]
    rfl
  rw [e]
  have e1 : ((("(" : String) : Str)).length = 1 := by decide
  rw [e1]
  have e3 : (((if (PyData.shownAll xs).length == 1 then ",)" else ")" : String)) : Str).length ≤ 2 := by
    split <;> decide
  omega
theorem bool_le (b : Bool) : (PyData.bool b).shown.length ≤ 5 := by cases b <;> decide
theorem int_le {i : Int} (h : i.natAbs < 2 ^ 40) : (PyData.int i).shown.length ≤ 41 := by
  have hl : i.natAbs.log2 < 40 := by
    by_cases z : i.natAbs = 0
    · rw [z]
      decide
    · exact (Nat.log2_lt z).mpr h
  have h1 := int_text_length_le (a := i) (k := 40) (by decide) hl
  have e : (PyData.int i).shown.length = (toString i).length := by
    simp only [PyData.shown]
    show (Str.ofString (toString i)).cps.size = _
    rw [← Array.length_toList, signs_ofString, List.length_map]
    rfl
  omega
theorem int_show {i : Int} (h : i.natAbs < 2 ^ 40) : (PyData.int i).showable = true := by
  simp only [PyData.showable]
  refine decide_eq_true ?_
  by_cases z : i.natAbs = 0
  · rw [z]
    decide
  · exact (Nat.log2_lt z).mpr (Nat.lt_of_lt_of_le h (Nat.pow_le_pow_right (by decide) (by decide)))
theorem showAll : ∀ {xs : List PyData}, (∀ x ∈ xs, x.showable = true) → PyData.showableAll xs = true
  | [], _ => rfl
  | x :: xs, h => by
    simp only [PyData.showableAll, Bool.and_eq_true]
    exact ⟨h x List.mem_cons_self, showAll fun y hy => h y (List.mem_cons_of_mem _ hy)⟩
/-- a tuple of few small whole numbers, or of Booleans among them, has a text -/
theorem tuple_ok {es : List PyData} (hl : es.length ≤ 100) (h : ∀ e ∈ es, (∃ n : Int, n.natAbs < 2 ^ 40 ∧ e = .int n) ∨ ∃ b, e = .bool b) :
    (PyData.tuple es).showable = true ∧ (PyData.tuple es).shown.length ≤ sizeLine ∧ (PyData.tuple es).depth ≤ 60 := by
  refine ⟨?_, ?_, ?_⟩
  · simp only [PyData.showable]
    refine showAll fun e he => ?_
    rcases h e he with ⟨n, hn, rfl⟩ | ⟨b, rfl⟩
    · exact int_show hn
    · rfl
  · have := tuple_le (xs := es) (k := 41) fun e he => by
      rcases h e he with ⟨n, hn, rfl⟩ | ⟨b, rfl⟩
      · exact int_le hn
      · have := bool_le b
        omega
    have h2 : es.length * (41 + 2) ≤ 100 * (41 + 2) := Nat.mul_le_mul_right _ hl
    have h3 : 100 * (41 + 2) + 3 ≤ sizeLine := by decide
    omega
  · have : ∀ ds : List PyData, (∀ e ∈ ds, (∃ n : Int, n.natAbs < 2 ^ 40 ∧ e = .int n) ∨ ∃ b, e = .bool b) → PyData.depthAll ds = 0 := by
      intro ds
      induction ds with
      | nil => intro _; rfl
      | cons d ds ih =>
        intro hd
        show max (PyData.depth d) (PyData.depthAll ds) = 0
        rw [ih fun e he => hd e (List.mem_cons_of_mem _ he)]
        rcases hd d List.mem_cons_self with ⟨n, _, rfl⟩ | ⟨b, rfl⟩ <;> rfl
    show PyData.depthAll es + 1 ≤ 60
    rw [this es h]
    decide
end Ty
set_option Elab.async false
set_option linter.all false
set_option maxRecDepth 100000
set_option maxHeartbeats 4000000
/-! Tm: terms of sums: words with numbers -/
namespace Tm
open Mx
abbrev Wd := List Nat
abbrev Terms := List (Wd × Int)
def wlt (a b : Wd) : Prop := a.length < b.length ∨ (a.length = b.length ∧ a < b)
instance (a b : Wd) : Decidable (wlt a b) := by unfold wlt; infer_instance
theorem lt_tri : ∀ (l l' : Wd), l < l' ∨ l = l' ∨ l' < l
  | [], [] => .inr (.inl rfl)
  | [], _ :: _ => .inl List.Lex.nil
  | _ :: _, [] => .inr (.inr List.Lex.nil)
  | a :: l, b :: l' => by
    rcases Nat.lt_trichotomy a b with h | h | h
    · exact .inl (List.Lex.rel h)
    · subst h
      rcases lt_tri l l' with q | q | q
      · exact .inl (List.Lex.cons q)
      · exact .inr (.inl (by rw [q]))
      · exact .inr (.inr (List.Lex.cons q))
    · exact .inr (.inr (List.Lex.rel h))
theorem wlt_irrefl (a : Wd) : ¬ wlt a a := fun h => by
  rcases h with h | ⟨_, h⟩
  · omega
  · exact List.lt_irrefl a h
theorem wlt_trans {a b c : Wd} (h : wlt a b) (h' : wlt b c) : wlt a c := by
  unfold wlt at *
  rcases h with h | ⟨e, h⟩ <;> rcases h' with h' | ⟨e', h'⟩
  · exact .inl (by omega)
  · exact .inl (by omega)
  · exact .inl (by omega)
  · exact .inr ⟨by omega, List.lt_trans h h'⟩
theorem wlt_tri (a b : Wd) : wlt a b ∨ a = b ∨ wlt b a := by
  unfold wlt
  rcases Nat.lt_trichotomy a.length b.length with h | h | h
  · exact .inl (.inl h)
  · rcases lt_tri a b with q | q | q
    · exact .inl (.inr ⟨h, q⟩)
    · exact .inr (.inl q)
    · exact .inr (.inr (.inr ⟨h.symm, q⟩))
  · exact .inr (.inr (.inl h))
/-- the number that a word has in all -/
def tot : Terms → Wd → Int
  | [], _ => 0
  | e :: r, w => (if e.1 = w then e.2 else 0) + tot r w
theorem tot_app (a b : Terms) (w : Wd) : tot (a ++ b) w = tot a w + tot b w := by
  induction a with
  | nil => simp [tot]
  | cons e r ih =>
    show (if e.1 = w then e.2 else 0) + tot (r ++ b) w = (if e.1 = w then e.2 else 0) + tot r w + tot b w
    rw [ih]
    omega
def Nf (ts : Terms) : Prop := (ts.map (·.1)).Pairwise wlt ∧ ∀ e ∈ ts, e.2 ≠ 0
theorem tot_none {ts : Terms} {w : Wd} (h : ∀ e ∈ ts, e.1 ≠ w) : tot ts w = 0 := by
  induction ts with
  | nil => rfl
  | cons e r ih =>
    show (if e.1 = w then e.2 else 0) + tot r w = 0
    rw [if_neg (h e List.mem_cons_self), ih fun x hx => h x (List.mem_cons_of_mem _ hx)]
    rfl
theorem Nf.tail {e : Wd × Int} {r : Terms} (h : Nf (e :: r)) : Nf r := ⟨(List.pairwise_cons.mp h.1).2, fun x hx => h.2 x (List.mem_cons_of_mem _ hx)⟩
theorem Nf.head {e : Wd × Int} {r : Terms} (h : Nf (e :: r)) : ∀ x ∈ r, wlt e.1 x.1 := fun x hx => (List.pairwise_cons.mp h.1).1 x.1 (List.mem_map_of_mem hx)
theorem Nf.tot_mem {ts : Terms} (h : Nf ts) : ∀ e ∈ ts, tot ts e.1 = e.2 := by
  induction ts with
  | nil => intro e he; cases he
  | cons x r ih =>
    intro e he
    show (if x.1 = e.1 then x.2 else 0) + tot r e.1 = e.2
    rcases List.mem_cons.mp he with z | z
    · subst z
      rw [if_pos rfl, tot_none fun y hy q => wlt_irrefl e.1 (by have := h.head y hy; rwa [q] at this)]
      omega
    · have hx := h.head e z
      rw [if_neg (fun q => wlt_irrefl e.1 (by rwa [q] at hx)), ih h.tail e z]
      omega
theorem Nf.mem_tot {ts : Terms} {w : Wd} (h : tot ts w ≠ 0) : ∃ e ∈ ts, e.1 = w := by
  apply Decidable.byContradiction
  intro z
  exact h (tot_none fun e he q => z ⟨e, he, q⟩)
theorem Nf.ext : ∀ {ts us : Terms}, Nf ts → Nf us → (∀ w, tot ts w = tot us w) → ts = us
  | [], [], _, _, _ => rfl
  | [], e :: r, _, h, q => by
    have := h.tot_mem e List.mem_cons_self
    rw [← q] at this
    exact absurd this.symm (h.2 e List.mem_cons_self)
  | e :: r, [], h, _, q => by
    have := h.tot_mem e List.mem_cons_self
    rw [q] at this
    exact absurd this.symm (h.2 e List.mem_cons_self)
  | e :: r, f :: s, h, h', q => by
    have he := h.tot_mem e List.mem_cons_self
    have hf := h'.tot_mem f List.mem_cons_self
    have ne := h.2 e List.mem_cons_self
    have nf := h'.2 f List.mem_cons_self
    have first : e.1 = f.1 := by
      rcases wlt_tri e.1 f.1 with z | z | z
      · exfalso
        obtain ⟨x, hx, hx1⟩ := Nf.mem_tot (ts := f :: s) (w := e.1) (by rw [← q, he]; exact ne)
        rcases List.mem_cons.mp hx with y | y
        · rw [← hx1, y] at z
          exact wlt_irrefl _ z
        · have := h'.head x y
          rw [hx1] at this
          exact wlt_irrefl _ (wlt_trans z this)
      · exact z
      · exfalso
        obtain ⟨x, hx, hx1⟩ := Nf.mem_tot (ts := e :: r) (w := f.1) (by rw [q, hf]; exact nf)
        rcases List.mem_cons.mp hx with y | y
        · rw [← hx1, y] at z
          exact wlt_irrefl _ z
        · have := h.head x y
          rw [hx1] at this
          exact wlt_irrefl _ (wlt_trans z this)
    have second : e.2 = f.2 := by rw [← he, q, first, hf]
    have ef : e = f := Prod.ext first second
    subst ef
    congr 1
    refine Nf.ext h.tail h'.tail fun w => ?_
    have := q w
    have a : tot (e :: r) w = (if e.1 = w then e.2 else 0) + tot r w := rfl
    have b : tot (e :: s) w = (if e.1 = w then e.2 else 0) + tot s w := rfl
    omega
/-- a term more -/
def ins (w : Wd) (n : Int) : Terms → Terms
  | [] => if n = 0 then [] else [(w, n)]
  | e :: r => if wlt w e.1 then (if n = 0 then e :: r else (w, n) :: e :: r) else if w = e.1 then (if e.2 + n = 0 then r else (w, e.2 + n) :: r) else e :: ins w n r
def nf (ts : Terms) : Terms := ts.foldr (fun e a => ins e.1 e.2 a) []
theorem ins_words (w : Wd) (n : Int) : ∀ (ts : Terms), ∀ e ∈ ins w n ts, e.1 = w ∨ ∃ x ∈ ts, x.1 = e.1
  | [], e, h => by
    unfold ins at h
    split at h
    · cases h
    · rw [List.mem_singleton] at h
      exact .inl (by rw [h])
  | x :: r, e, h => by
    unfold ins at h
    split at h
    · split at h
      · exact .inr ⟨e, h, rfl⟩
      · rcases List.mem_cons.mp h with z | z
        · exact .inl (by rw [z])
        · exact .inr ⟨e, z, rfl⟩
    · split at h
      · split at h
        · exact .inr ⟨e, List.mem_cons_of_mem _ h, rfl⟩
        · rcases List.mem_cons.mp h with z | z
          · exact .inl (by rw [z])
          · exact .inr ⟨e, List.mem_cons_of_mem _ z, rfl⟩
      · rcases List.mem_cons.mp h with z | z
        · exact .inr ⟨x, List.mem_cons_self, by rw [z]⟩
        · rcases ins_words w n r e z with q | ⟨y, hy, q⟩
          · exact .inl q
          · exact .inr ⟨y, List.mem_cons_of_mem _ hy, q⟩
theorem ins_nf (w : Wd) (n : Int) : ∀ {ts : Terms}, Nf ts → Nf (ins w n ts)
  | [], _ => by
    unfold ins
    split
    · exact ⟨List.Pairwise.nil, fun e h => by cases h⟩
    · rename_i h
      exact ⟨List.pairwise_singleton _ _, fun e he => by rw [List.mem_singleton.mp he]; exact h⟩
  | x :: r, hx => by
    unfold ins
    split
    · rename_i hw
      split
      · exact hx
      · rename_i hn
        refine ⟨List.pairwise_cons.mpr ⟨fun v hv => ?_, hx.1⟩, fun e he => ?_⟩
        · rcases List.mem_cons.mp hv with z | z
          · rw [z]
            exact hw
          · obtain ⟨y, hy, rfl⟩ := List.mem_map.mp z
            exact wlt_trans hw (hx.head y hy)
        · rcases List.mem_cons.mp he with z | z
          · rw [z]
            exact hn
          · exact hx.2 e z
    · rename_i hw
      split
      · rename_i he
        split
        · exact hx.tail
        · rename_i hn
          refine ⟨List.pairwise_cons.mpr ⟨fun v hv => ?_, hx.tail.1⟩, fun e hm => ?_⟩
          · obtain ⟨y, hy, rfl⟩ := List.mem_map.mp hv
            rw [he]
            exact hx.head y hy
          · rcases List.mem_cons.mp hm with z | z
            · rw [z]
              exact hn
            · exact hx.tail.2 e z
      · rename_i he
        have ih := ins_nf w n hx.tail
        have big : wlt x.1 w := by
          rcases wlt_tri w x.1 with z | z | z
          · exact absurd z hw
          · exact absurd z he
          · exact z
        refine ⟨List.pairwise_cons.mpr ⟨fun v hv => ?_, ih.1⟩, fun e hm => ?_⟩
        · obtain ⟨y, hy, rfl⟩ := List.mem_map.mp hv
          rcases ins_words w n r y hy with z | ⟨u, hu, z⟩
          · rw [z]
            exact big
          · rw [← z]
            exact hx.head u hu
        · rcases List.mem_cons.mp hm with z | z
          · rw [z]
            exact hx.2 x List.mem_cons_self
          · exact ih.2 e z
theorem nf_nf (ts : Terms) : Nf (nf ts) := by
  induction ts with
  | nil => exact ⟨List.Pairwise.nil, fun e h => by cases h⟩
  | cons e r ih => exact ins_nf e.1 e.2 ih
/-- sums over terms that see each word's number in all -/
theorem ins_sum (f : Wd → Int) (w : Wd) (n : Int) : ∀ ts : Terms, ((ins w n ts).map fun e => e.2 * f e.1).sum = n * f w + (ts.map fun e => e.2 * f e.1).sum
  | [] => by
    unfold ins
    split
    · rename_i h
      rw [h]
      simp
    · simp
  | x :: r => by
    unfold ins
    split
    · split
      · rename_i h
        rw [h]
        simp
      · simp
    · split
      · rename_i h
        split
        · rename_i hn
          have : n = -x.2 := by omega
          rw [this, h]
          simp only [List.map_cons, List.sum_cons]
          rw [Int.neg_mul]
          omega
        · simp only [List.map_cons, List.sum_cons]
          rw [h, Int.add_mul]
          omega
      · simp only [List.map_cons, List.sum_cons]
        rw [ins_sum f w n r]
        omega
theorem nf_sum (f : Wd → Int) (ts : Terms) : ((nf ts).map fun e => e.2 * f e.1).sum = (ts.map fun e => e.2 * f e.1).sum := by
  induction ts with
  | nil => rfl
  | cons e r ih =>
    show ((ins e.1 e.2 (nf r)).map fun e => e.2 * f e.1).sum = _
    rw [ins_sum, ih]
    rfl
theorem tot_sum (ts : Terms) (w : Wd) : tot ts w = (ts.map fun e => e.2 * if e.1 = w then 1 else 0).sum := by
  induction ts with
  | nil => rfl
  | cons e r ih =>
    show (if e.1 = w then e.2 else 0) + tot r w = _
    rw [ih]
    simp only [List.map_cons, List.sum_cons]
    split <;> simp
theorem nf_tot (ts : Terms) (w : Wd) : tot (nf ts) w = tot ts w := by
  rw [tot_sum, tot_sum]
  exact nf_sum (fun v => if v = w then 1 else 0) ts
theorem nf_words (ts : Terms) : ∀ e ∈ nf ts, ∃ x ∈ ts, x.1 = e.1 := by
  induction ts with
  | nil => intro e h; cases h
  | cons a r ih =>
    intro e h
    rcases ins_words a.1 a.2 (nf r) e h with z | ⟨y, hy, z⟩
    · exact ⟨a, List.mem_cons_self, z.symm⟩
    · obtain ⟨x, hx, q⟩ := ih y hy
      exact ⟨x, List.mem_cons_of_mem _ hx, q.trans z⟩
theorem nf_id {ts : Terms} (h : Nf ts) : nf ts = ts := Nf.ext (nf_nf ts) h fun w => nf_tot ts w
/-- what is normal and has these numbers -/
theorem nf_eq {ts us : Terms} (h : Nf us) (q : ∀ w, tot us w = tot ts w) : us = nf ts := Nf.ext h (nf_nf ts) fun w => by rw [q, nf_tot]
theorem nf_congr {ts us : Terms} (q : ∀ w, tot us w = tot ts w) : nf us = nf ts := nf_eq (nf_nf us) fun w => by rw [nf_tot, q]
/-- the sum of the numbers, each times the count of its word -/
def worth (ts : Terms) (t : Wd) : Int := (ts.map fun e => e.2 * ((cnt e.1 t : Nat) : Int)).sum
theorem worth_nf (ts : Terms) (t : Wd) : worth (nf ts) t = worth ts t := nf_sum (fun w => ((cnt w t : Nat) : Int)) ts
end Tm
set_option Elab.async false
set_option linter.all false
set_option maxRecDepth 100000
set_option maxHeartbeats 4000000
/-! Rep: how long the texts of numbers, words, and lists of terms are -/
namespace Rep
open PySem PySem.Spec PyProof.Rows L2 Evl Bx
theorem wide_le {i : Int} {b : Nat} (hb : 0 < b) (h : i.natAbs < 2 ^ b) : (PyData.int i).shown.length ≤ b + 1 := by
  have hl : i.natAbs.log2 < b := by
    by_cases z : i.natAbs = 0
    · rw [z]
      exact hb
    · exact (Nat.log2_lt z).mpr h
  have h1 := int_text_length_le (a := i) (k := b) hb hl
  have e : (PyData.int i).shown.length = (toString i).length := by
    simp only [PyData.shown]
    show (Str.ofString (toString i)).cps.size = _
    rw [← Array.length_toList, signs_ofString, List.length_map]
    rfl
  omega
theorem wide_show {i : Int} {b : Nat} (hb : b ≤ 1900) (h : i.natAbs < 2 ^ b) : (PyData.int i).showable = true := by
  simp only [PyData.showable]
  refine decide_eq_true ?_
  by_cases z : i.natAbs = 0
  · rw [z]
    decide
  · exact (Nat.log2_lt z).mpr (Nat.lt_of_lt_of_le h (Nat.pow_le_pow_right (by decide) (by omega)))
theorem word_le {l : List Nat} (h : Low l) : (PyData.str (mk l)).shown.length ≤ 10 * l.length + 2 := by
  have e : (PyData.str (mk l)).shown = reprText (mk l) := by simp only [PyData.shown]
  rw [e]
  have := PySem.StrLaws.reprText_len (mk l) fun c hc => by
    have := (h c hc).2
    have : (200 : Nat) < 16 ^ 8 := by decide
    omega
  rwa [mk_len] at this
theorem all_len : ∀ ys : List PyData, (PyData.shownAll ys).length = ys.length
  | [] => rfl
  | y :: ys => by simp only [PyData.shownAll, List.length_cons, all_len ys]
theorem list_le {xs : List PyData} {k : Nat} (h : ∀ x ∈ xs, x.shown.length ≤ k) : (PyData.list xs).shown.length ≤ xs.length * (k + 2) + 2 := by
  have hs : (PyData.list xs).shown = listText (PyData.shownAll xs) := by simp only [PyData.shown]
  rw [hs]
  have h0 := textFrom_len_le (PyData.shownAll xs) 0 "["
  have sums : ∀ ys : List Str, (∀ t ∈ ys, t.length ≤ k) → (ys.map (·.length)).sum ≤ ys.length * k := by
    intro ys
    induction ys with
    | nil => intro _; exact Nat.zero_le _
    | cons y ys ih =>
      intro hy
      rw [List.map_cons, List.sum_cons, List.length_cons, Nat.add_mul]
      have h1 := hy y List.mem_cons_self
      have h2 := ih fun t ht => hy t (List.mem_cons_of_mem _ ht)
      omega
  have s0 := sums (PyData.shownAll xs) fun t ht => by
    obtain ⟨x, hx, rfl⟩ := Ty.shownAll_mem.mp ht
    exact h x hx
  rw [all_len] at h0 s0
  unfold listText
  have e : ∀ a b : Str, (a ++ b).length = a.length + b.length := by
    intro a b
    show (a ++ b).cps.size = a.cps.size + b.cps.size
    rw [← Array.length_toList, cps_toList_append, List.length_append]
    rfl
  rw [e]
  have e1 : ((("[" : String) : Str)).length = 1 := by decide
  have e3 : ((("]" : String) : Str)).length = 1 := by decide
  rw [Nat.mul_add]
  omega
/-- words of at most 30 letters with numbers below 2 ^ 300, at most 150 of them -/
theorem terms_ok {ts : Tm.Terms} (low : ∀ e ∈ ts, Low e.1) (len : ∀ e ∈ ts, e.1.length ≤ 29) (num : ∀ e ∈ ts, e.2.natAbs < 2 ^ 300) (few : ts.length ≤ 150) :
    (PyData.list (ts.map fun e => .tuple [.str (mk e.1), .int e.2])).showable = true ∧ (PyData.list (ts.map fun e => .tuple [.str (mk e.1), .int e.2])).shown.length ≤ sizeLine ∧ (PyData.list (ts.map fun e => .tuple [.str (mk e.1), .int e.2])).depth ≤ 60 := by
  refine ⟨?_, ?_, ?_⟩
  · simp only [PyData.showable]
    refine Ty.showAll fun x hx => ?_
    obtain ⟨e, he, rfl⟩ := List.mem_map.mp hx
    simp only [PyData.showable]
    refine Ty.showAll fun y hy => ?_
    simp only [List.mem_cons, List.not_mem_nil, or_false] at hy
    rcases hy with h | h <;> rw [h]
    · rfl
    · exact wide_show (b := 300) (by decide) (num e he)
  · have h1 := list_le (xs := ts.map fun e => .tuple [.str (mk e.1), .int e.2]) (k := 609) fun x hx => by
      obtain ⟨e, he, rfl⟩ := List.mem_map.mp hx
      have h2 := Ty.tuple_le (xs := [.str (mk e.1), .int e.2]) (k := 301) fun y hy => by
        simp only [List.mem_cons, List.not_mem_nil, or_false] at hy
        rcases hy with h | h <;> rw [h]
        · have := word_le (low e he)
          have := len e he
          omega
        · exact wide_le (b := 300) (by decide) (num e he)
      simpa using h2
    rw [List.length_map] at h1
    exact Nat.le_trans h1 (sz_of (by omega))
  · have key : ∀ ts : Tm.Terms, PyData.depthAll (ts.map fun e => PyData.tuple [.str (mk e.1), .int e.2]) ≤ 2 := by
      intro ts
      induction ts with
      | nil => exact Nat.zero_le _
      | cons e r ih =>
        show max (max 0 (max 0 0) + 1) (PyData.depthAll (r.map fun e => PyData.tuple [.str (mk e.1), .int e.2])) ≤ 2
        omega
    show PyData.depthAll (ts.map fun e => PyData.tuple [.str (mk e.1), .int e.2]) + 1 ≤ 60
    have := key ts
    omega
end Rep
set_option Elab.async false
set_option linter.all false
set_option maxRecDepth 100000
set_option maxHeartbeats 4000000
/-! Tm2: words put in order; the beginnings of words -/
namespace Tm
open Mx
/-- sorted(sorted(words), key=len) -/
def ord (ws : List Wd) : List Wd := (ws.mergeSort fun a b => decide (a ≤ b)).mergeSort fun a b => decide (a.length ≤ b.length)
theorem ord_perm (ws : List Wd) : (ord ws).Perm ws := (List.mergeSort_perm _ _).trans (List.mergeSort_perm _ _)
theorem ord_mem {ws : List Wd} {w : Wd} : w ∈ ord ws ↔ w ∈ ws := (ord_perm ws).mem_iff
theorem ord_len (ws : List Wd) : (ord ws).length = ws.length := (ord_perm ws).length_eq
theorem two_sub {α : Type} {a b : α} (n : a ≠ b) : ∀ {l : List α}, a ∈ l → b ∈ l → [a, b].Sublist l ∨ [b, a].Sublist l
  | [], h, _ => by cases h
  | x :: l, ha, hb => by
    by_cases xa : x = a
    · subst xa
      rcases List.mem_cons.mp hb with z | z
      · exact absurd z.symm n
      · exact .inl ((List.singleton_sublist.mpr z).cons_cons x)
    · by_cases xb : x = b
      · subst xb
        rcases List.mem_cons.mp ha with z | z
        · exact absurd z n
        · exact .inr ((List.singleton_sublist.mpr z).cons_cons x)
      · rcases two_sub n ((List.mem_cons.mp ha).resolve_left fun z => xa z.symm) ((List.mem_cons.mp hb).resolve_left fun z => xb z.symm) with z | z
        · exact .inl (z.cons x)
        · exact .inr (z.cons x)
theorem not_both {α : Type} {a b : α} : ∀ {l : List α}, l.Nodup → [a, b].Sublist l → [b, a].Sublist l → False
  | [], _, h, _ => by cases h
  | x :: l, nd, h, h' => by
    have nx := (List.nodup_cons.mp nd).1
    have nl := (List.nodup_cons.mp nd).2
    cases h with
    | cons _ h1 =>
      cases h' with
      | cons _ h2 => exact not_both nl h1 h2
      | cons_cons _ h2 => exact nx (h1.subset (by simp))
    | cons_cons _ h1 =>
      cases h' with
      | cons _ h2 => exact nx (h2.subset (by simp))
      | cons_cons _ h2 => exact nx (List.singleton_sublist.mp h1)
theorem le_cases {a b : Wd} (h : a ≤ b) (n : a ≠ b) : a < b := by
  rcases lt_tri a b with z | z | z
  · exact z
  · exact absurd z n
  · exact absurd z (List.not_lt.mpr h)
theorem ord_wlt {ws : List Wd} (h : ws.Nodup) : (ord ws).Pairwise wlt := by
  have n1 : (ws.mergeSort fun a b => decide (a ≤ b)).Nodup := (List.mergeSort_perm _ _).nodup_iff.mpr h
  have lr : ∀ a b c : Wd, decide (a ≤ b) = true → decide (b ≤ c) = true → decide (a ≤ c) = true := fun a b c h h' => decide_eq_true (List.le_trans (of_decide_eq_true h) (of_decide_eq_true h'))
  have lt : ∀ a b : Wd, (decide (a ≤ b) || decide (b ≤ a)) = true := fun a b => by
    rcases List.le_total a b with z | z
    · rw [decide_eq_true z]; rfl
    · rw [decide_eq_true z, Bool.or_true]
  have s1 := List.pairwise_mergeSort lr lt ws
  have tr : ∀ a b c : Wd, decide (a.length ≤ b.length) = true → decide (b.length ≤ c.length) = true → decide (a.length ≤ c.length) = true := fun a b c h h' => by
    have := of_decide_eq_true h
    have := of_decide_eq_true h'
    exact decide_eq_true (by omega)
  have tt : ∀ a b : Wd, (decide (a.length ≤ b.length) || decide (b.length ≤ a.length)) = true := fun a b => by
    by_cases z : a.length ≤ b.length
    · rw [decide_eq_true z]; rfl
    · rw [decide_eq_true (by omega : b.length ≤ a.length), Bool.or_true]
  have s2 := List.pairwise_mergeSort tr tt (ws.mergeSort fun a b => decide (a ≤ b))
  have n2 : (ord ws).Nodup := (ord_perm ws).nodup_iff.mpr h
  refine List.pairwise_iff_forall_sublist.mpr fun {a b} hab => ?_
  have hl := of_decide_eq_true (List.pairwise_iff_forall_sublist.mp s2 hab)
  have ne : a ≠ b := fun z => by
    subst z
    have := hab.nodup n2
    simp at this
  rcases Nat.lt_or_eq_of_le hl with z | z
  · exact .inl z
  · refine .inr ⟨z, ?_⟩
    have ma : a ∈ ws.mergeSort fun a b => decide (a ≤ b) := (List.mergeSort_perm _ _).mem_iff.mp (hab.subset (by simp))
    have mb : b ∈ ws.mergeSort fun a b => decide (a ≤ b) := (List.mergeSort_perm _ _).mem_iff.mp (hab.subset (by simp))
    rcases two_sub ne ma mb with q | q
    · exact le_cases (of_decide_eq_true (List.pairwise_iff_forall_sublist.mp s1 q)) ne
    · exact (not_both n2 hab (List.pair_sublist_mergeSort tr tt (decide_eq_true (by omega)) q)).elim
/-- distinct words, put in order, with their numbers but for 0 -/
theorem ord_nf {ws : List Wd} {ts : Terms} (h : ws.Nodup) (hw : ∀ e ∈ ts, e.1 ∈ ws) : ((ord ws).filterMap fun w => if tot ts w = 0 then none else some (w, tot ts w)) = nf ts := by
  have key : ∀ (l : List Wd), l.Pairwise wlt → ((l.filterMap fun w => if tot ts w = 0 then none else some (w, tot ts w)).map (·.1)).Sublist l ∧ (∀ e ∈ l.filterMap (fun w => if tot ts w = 0 then none else some (w, tot ts w)), e.2 = tot ts e.1 ∧ e.2 ≠ 0) := by
    intro l hl
    induction l with
    | nil => exact ⟨List.Sublist.refl _, fun e he => by cases he⟩
    | cons x r ih =>
      have ⟨i1, i2⟩ := ih (List.pairwise_cons.mp hl).2
      by_cases z : tot ts x = 0
      · rw [List.filterMap_cons_none (by rw [if_pos z])]
        exact ⟨i1.cons x, i2⟩
      · rw [List.filterMap_cons_some (by rw [if_neg z])]
        refine ⟨i1.cons_cons x, fun e he => ?_⟩
        rcases List.mem_cons.mp he with q | q
        · rw [q]
          exact ⟨rfl, z⟩
        · exact i2 e q
  obtain ⟨k1, k2⟩ := key _ (ord_wlt h)
  have hN : Nf ((ord ws).filterMap fun w => if tot ts w = 0 then none else some (w, tot ts w)) := ⟨(ord_wlt h).sublist k1, fun e he => (k2 e he).2⟩
  refine nf_eq hN fun w => ?_
  by_cases z : tot ts w = 0
  · rw [z]
    refine tot_none fun e he q => ?_
    have := k2 e he
    rw [q, z] at this
    exact this.2 this.1
  · obtain ⟨e, he, q⟩ := Nf.mem_tot z
    have : (w, tot ts w) ∈ (ord ws).filterMap fun w => if tot ts w = 0 then none else some (w, tot ts w) := List.mem_filterMap.mpr ⟨w, ord_mem.mpr (q ▸ hw e he), by rw [if_neg z]⟩
    exact hN.tot_mem _ this
end Tm
set_option Elab.async false
set_option linter.all false
set_option maxRecDepth 100000
set_option maxHeartbeats 4000000
/-! Rx5: sorted of a list of tuples of ints that ascends -/
namespace PySem.W
open PySem PySem.Calls PyProof.Rows
/-- one empty tuple can be sorted -/
theorem SortsAt.lone {prog : Program} {w : World} {A : Around} {s : Shared} {v : Value} (e : ∃ as, Reads s.heap v (.tuple []) as) (hu : A.units + 2 < cLine) : SortsAt prog w A s (dataKind s.heap [.tuple []]) [v] := by
  have hal : AllAlike [PyData.tuple []] := by
    intro d hd d' hd'
    rw [List.mem_singleton.mp hd, List.mem_singleton.mp hd']
    simp [alike, alikeAll]
  refine ⟨fun x hx => ?_, tuples' true, ?_, fun h2 => absurd h2 (by simp)⟩
  · obtain ⟨as, r⟩ := e
    rw [List.mem_singleton.mp hx]
    exact ⟨_, dataKind_some hal (List.mem_singleton.mpr rfl) r⟩
  · intro E x y a b Q ha hb hq
    obtain ⟨d, as, hd, ra, rfl⟩ := dataKind_inv ha
    obtain ⟨d', as', hd', rb, rfl⟩ := dataKind_inv hb
    have hdd := hal d hd d' hd'
    have e1 := List.mem_singleton.mp hd
    have e2 := List.mem_singleton.mp hd'
    subst e1 e2
    have hq' : Q (dataLt (.tuple []) (.tuple [])) s := hq
    rw [dataLt_tuple] at hq'
    cases ra with
    | @tuple l o xs n _ _ h1 h2 h3 h4 =>
      cases rb with
      | @tuple l' o' xs' n' _ _ k1 k2 k3 k4 =>
        have n1 : xs.size = ([] : List PyData).length := by simpa using SeqAt.ReadsAll.length _ _ _ h4
        have n2 : xs'.size = ([] : List PyData).length := by simpa using SeqAt.ReadsAll.length _ _ _ k4
        refine kat_lt h1 h3 k1 k3 (katLex_alike [] [] 0 _ _ _ _ h4 k4 (by simp [alikeAll]) (by
          have z : PyData.depthAll [] = 0 := by simp [PyData.depthAll]
          rw [z]
          omega) (fun hb _ x r t ex => nomatch ex) (by rw [n1, n2]) hq')
end PySem.W
namespace Rx
open PySem PySem.Spec PyProof.Rows L2
section
variable {X : Cx}
def encT (p : Addr × List Int) : PyData := .tuple (p.2.map .int)
theorem dataLt_ints : ∀ (ns ms : List Int), PyProof.Rows.lexLt itemOrd (PySem.W.keyToksAll (ns.map .int)) (PySem.W.keyToksAll (ms.map .int)) = HT.lexLt ns ms
  | [], [] => PyProof.Rows.lex_irrefl _
  | [], m :: ms => by
    show PyProof.Rows.lexLt itemOrd (PySem.W.keyToksAll []) (PySem.W.keyToksAll (PyData.int m :: ms.map .int)) = true
    simp only [PySem.W.keyToksAll]
    rw [PyProof.Rows.lex_cons]
    rfl
  | n :: ns, [] => by
    show PyProof.Rows.lexLt itemOrd (PySem.W.keyToksAll (PyData.int n :: ns.map .int)) (PySem.W.keyToksAll []) = false
    simp only [PySem.W.keyToksAll]
    rw [PyProof.Rows.lex_cons]
    rfl
  | n :: ns, m :: ms => by
    show PyProof.Rows.lexLt itemOrd (PySem.W.keyToksAll (PyData.int n :: ns.map .int)) (PySem.W.keyToksAll (PyData.int m :: ms.map .int)) = _
    rw [PySem.W.dataLt_cons (by simp [PySem.W.alike]), dataLt_ints ns ms, HT.lexLt_cons, PySem.W.dataLt_int]
    simp only [PyData.eqv, beq_iff_eq]
theorem le_of (p q : Addr × List Int) : PySem.W.dataLe false encT p q = !HT.lexLt q.2 p.2 := by
  show (!PySem.W.dataLt (.tuple (q.2.map .int)) (.tuple (p.2.map .int))) = _
  rw [PySem.W.dataLt_tuple, dataLt_ints]
/-- sorted(xs), xs a list of tuples of ints that ascends: a new list, the same -/
def rSortAsc (K : PySem.W.Frag) : List V → Hp → VK → Prop := fun vs H Q => ∃ (a : Addr) (L : List (Addr × List Int)), vs = [V.ref a] ∧ SqL K H a (L.map fun p => V.ref p.1) ∧ (∀ p ∈ L, SqT K H p.1 (p.2.map V.int)) ∧ L.Pairwise (fun p q => HT.lexLt q.2 p.2 = false) ∧
  ((∀ p ∈ L, p.2 ≠ []) ∨ ∃ t, L = [(t, [])]) ∧ ∀ p, H p = none → Q (.ref p) (upd H p (.lst (L.map fun p => V.ref p.1)))
theorem reads_ints {h : Heap} : ∀ {ns : List Int} {us : List Value}, Vals (ns.map V.int) us → ∃ as, ReadsAll h us (ns.map .int) as
  | [], _, r => by
    cases r
    exact ⟨[], .nil⟩
  | n :: ns, _, r => by
    cases r with
    | cons r1 r2 =>
      obtain ⟨t, rfl⟩ := r1
      obtain ⟨as, h⟩ := reads_ints (h := h) r2
      exact ⟨[] ++ as, .cons (.int _ _) h⟩
theorem each_refs : ∀ {L : List (Addr × List Int)} {us : List Value} {Rl : Value → Addr × List Int → Prop}, Vals (L.map fun p => V.ref p.1) us → (∀ p ∈ L, Rl (.ref p.1) p) → PySem.W.EachIs Rl us L
  | [], _, _, r, _ => by
    cases r
    exact .nil
  | p :: L, _, _, r, h => by
    cases r with
    | cons r1 r2 =>
      cases r1
      exact .cons (h p List.mem_cons_self) (each_refs r2 fun q hq => h q (List.mem_cons_of_mem _ hq))
theorem each_back : ∀ {L : List (Addr × List Int)} {us : List Value}, PySem.W.EachIs (fun v p => v = Value.ref p.1) us L → Vals (L.map fun p => V.ref p.1) us
  | _, _, .nil => .nil
  | _, _, .cons h t => .cons (by rw [h]; rfl) (each_back t)
theorem depth_le1 (ns : List Int) : (PyData.tuple (ns.map .int)).depth ≤ 1 := by
  show PyData.depthAll (ns.map .int) + 1 ≤ 1
  rw [PySem.W.depth_ints]
  exact Nat.le_refl 1
theorem cr_sortAsc (hu : X.A.units + 64 < cLine) : CallR X (.builtin "sorted") (rSortAsc X.K) := by
  intro pins s σ H vs us Q I r h
  obtain ⟨a, L, rfl, hs, ht, hp, hk, q⟩ := h
  obtain ⟨its, rv, hl, hz⟩ := I.list hs
  obtain ⟨u, rfl, ru⟩ := vals1 r
  obtain rfl : u = Value.ref a := ru
  have hz' : L.length ≤ sizeLine := by rw [List.length_map] at hz; exact hz
  have e : PySem.W.EachIs (fun v (p : Addr × List Int) => v = Value.ref p.1) its L := each_refs rv fun p _ => rfl
  have er : PySem.W.EachIs (fun v p => ∃ as, Reads s.heap v (encT p) as) its L := each_refs rv fun p hm => by
    obtain ⟨jts, rj, tj, _⟩ := I.tuple (ht p hm)
    obtain ⟨as, ra⟩ := reads_ints (h := s.heap) rj
    obtain ⟨o, ho, hc, n, hd⟩ := tj
    exact ⟨as, .tuple ho hc hd (by simpa using ra)⟩
  have hal : PySem.W.AllAlike (L.map encT) := PySem.W.AllAlike.of fun p p' => by
    show PySem.W.alike (.tuple (p.2.map .int)) (.tuple (p'.2.map .int)) = true
    rw [PySem.W.alike]
    exact PySem.W.alike_ints _ _
  have ms : L.mergeSort (PySem.W.dataLe false encT) = L := List.mergeSort_of_pairwise (hp.imp fun {p p'} hq => by
    rw [le_of, hq]
    rfl)
  have fin : ∀ out : List Value, PySem.W.EachIs (fun v (p : Addr × List Int) => v = Value.ref p.1) out L → EP X pins σ Q (.ref (s.heap.objs.size + 1)) { s with heap := PyProof.Rows.sortedAll s.heap its out.toArray } := by
    intro out eo
    obtain ⟨ep, he'⟩ := PyProof.Rows.sortedAll_at s.heap its out.toArray
    refine ⟨.ref _, upd H (s.heap.objs.size + 1) (.lst (L.map fun p => V.ref p.1)), I.laid (t' := s.toks) (fun _ _ => PyProof.Rows.sortedAll_old) (Nat.le_succ _) ⟨hz, out, ep, each_back eo, by simpa using he'⟩, rfl, q _ (I.hok.fresh (Nat.le_succ _))⟩
  rcases hk with hk | ⟨t, rfl⟩
  · refine PySem.W.sorted_data (R := fun v (p : Addr × List Int) => v = Value.ref p.1) (bs := L) (enc := encT) hl.isList e er hal (.inl fun d hd => ?_) hz' (fun p _ => ?_) fun out _ eo => fin out (by rw [ms] at eo; exact eo)
    · obtain ⟨p, hm, rfl⟩ := List.mem_map.mp hd
      have := hk p hm
      cases hp2 : p.2 with
      | nil => exact absurd hp2 this
      | cons x xs => exact ⟨.int x, xs.map .int, by show PyData.tuple (p.2.map .int) = _; rw [hp2]; rfl⟩
    · have := depth_le1 p.2
      show X.A.units + 2 + (PyData.tuple (p.2.map .int)).depth < cLine
      omega
  · have hs1 : its = [Value.ref t] := by
      cases e with
      | cons h1 h2 =>
        cases h2
        rw [h1]
    subst hs1
    have er' : ∃ as, Reads (PySem.W.sortingHeap (PySem.W.copyHeap s.heap [Value.ref t]) (s.heap.objs.size + 1) [Value.ref t]) (Value.ref t) (.tuple []) as := by
      cases er with
      | cons h1 h2 =>
        obtain ⟨as, r1⟩ := h1
        exact ⟨as, PyProof.Rows.Reads.keeps (fun _ _ => PySem.W.sorting_copy_old) r1⟩
    refine PySem.W.sorted_vals hl.isList (PySem.W.SortsAt.lone (s := { s with heap := PySem.W.sortingHeap (PySem.W.copyHeap s.heap [Value.ref t]) (s.heap.objs.size + 1) [Value.ref t] }) er' (by show X.A.units + 1 + 1 + 2 < cLine; omega)) hz' (fin _ ?_)
    have h1 := PySem.W.sortVals_length (κ := PySem.W.dataKind (PySem.W.sortingHeap (PySem.W.copyHeap s.heap [Value.ref t]) (s.heap.objs.size + 1) [Value.ref t]) [PyData.tuple []]) false (ks := [Value.ref t]) (vs := [Value.ref t]) rfl
    have h2 := fun v => PySem.W.sortVals_mem (κ := PySem.W.dataKind (PySem.W.sortingHeap (PySem.W.copyHeap s.heap [Value.ref t]) (s.heap.objs.size + 1) [Value.ref t]) [PyData.tuple []]) false (ks := [Value.ref t]) (vs := [Value.ref t]) (v := v)
    generalize PySem.W.sortVals _ false [Value.ref t] [Value.ref t] = o at h1 h2 ⊢
    match o, h1, h2 with
    | [v], _, h2 =>
      have := List.mem_singleton.mp (h2 v List.mem_cons_self)
      exact .cons this .nil
end
end Rx
set_option Elab.async false
set_option linter.all false
set_option maxRecDepth 100000
set_option maxHeartbeats 4000000
/-! Rx7: sorted of any list of data; sorted(list of texts, key=len) -/
namespace Rx
open PySem PySem.Spec PyProof.Rows L2 Bx
theorem each_vals {β : Type} (v : β → V) : ∀ {bs : List β} {us : List Value}, Vals (bs.map v) us → PySem.W.EachIs (fun u b => L2.RelV (v b) u) us bs
  | [], _, r => by
    cases r
    exact .nil
  | b :: bs, _, r => by
    cases r with
    | cons r1 r2 => exact .cons r1 (each_vals v r2)
theorem vals_each {β : Type} (v : β → V) : ∀ {bs : List β} {us : List Value}, PySem.W.EachIs (fun u b => L2.RelV (v b) u) us bs → Vals (bs.map v) us
  | _, _, .nil => .nil
  | _, _, .cons h t => .cons h (vals_each v t)
/-- sorted(xs), xs any list of data that are alike -/
def rSortD (K : PySem.W.Frag) : List V → Hp → VK → Prop := fun vs H Q => ∃ (a : Addr) (β : Type) (bs : List β) (v : β → V) (enc : β → PyData), vs = [V.ref a] ∧ SqL K H a (bs.map v) ∧ (∀ b ∈ bs, Dp K H (v b) (enc b)) ∧ PySem.W.AllAlike (bs.map enc) ∧ PySem.W.Sortable (bs.map enc) ∧
  (∀ b ∈ bs, (enc b).depth ≤ 8) ∧ ∀ p, H p = none → Q (.ref p) (upd H p (.lst ((bs.mergeSort (PySem.W.dataLe false enc)).map v)))
section
variable {X : Cx}
theorem cr_sortD (hu : X.A.units + 64 < cLine) : CallR X (.builtin "sorted") (rSortD X.K) := by
  intro pins s σ H vs us Q I r h
  obtain ⟨a, β, bs, v, enc, rfl, hs, hd, hal, hk, hdp, q⟩ := h
  obtain ⟨its, rv, hl, hz⟩ := I.list hs
  obtain ⟨u, rfl, ru⟩ := vals1 r
  obtain rfl : u = Value.ref a := ru
  have hz' : bs.length ≤ sizeLine := by rw [List.length_map] at hz; exact hz
  have e := each_vals v rv
  have er : PySem.W.EachIs (fun u b => ∃ as, Reads s.heap u (enc b) as) its bs := by
    have : ∀ {cs : List β} {us : List Value}, (∀ b ∈ cs, b ∈ bs) → PySem.W.EachIs (fun u b => L2.RelV (v b) u) us cs → PySem.W.EachIs (fun u b => ∃ as, Reads s.heap u (enc b) as) us cs := by
      intro cs us hc h
      induction h with
      | nil => exact .nil
      | cons h1 h2 ih => exact .cons (Dp.reads I _ _ _ (hd _ (hc _ List.mem_cons_self)) h1) (ih fun b hb => hc b (List.mem_cons_of_mem _ hb))
    exact this (fun _ h => h) e
  refine PySem.W.sorted_data (R := fun u b => L2.RelV (v b) u) (bs := bs) (enc := enc) hl.isList e er hal hk hz' (fun b hb => ?_) fun out _ eo => ?_
  · have := hdp b hb
    omega
  · obtain ⟨ep, he'⟩ := PyProof.Rows.sortedAll_at s.heap its out.toArray
    have len : (bs.mergeSort (PySem.W.dataLe false enc)).length = bs.length := List.length_mergeSort _
    exact ⟨.ref _, upd H (s.heap.objs.size + 1) (.lst ((bs.mergeSort (PySem.W.dataLe false enc)).map v)), I.laid (t' := s.toks) (fun _ _ => PyProof.Rows.sortedAll_old) (Nat.le_succ _) ⟨by rw [List.length_map, len]; exact hz', out, ep, vals_each v eo, by simpa using he'⟩, rfl, q _ (I.hok.fresh (Nat.le_succ _))⟩
/-- sorted(e, key = len) -/
def tSortLen (K : PySem.W.Frag) (t : TA) : TE := fun σ H Q => t σ H fun xs H1 => ∃ (a : Addr) (ts : List (List Nat)), xs = [.ref a] ∧ SqL K H1 a (ts.map tx) ∧ (∀ t ∈ ts, t.length ≤ 100000) ∧
  ∀ p, H1 p = none → Q (.ref p) (upd H1 p (.lst ((ts.mergeSort (fun a b => decide (a.length ≤ b.length))).map tx)))
theorem pe_sortLen {e : Expr} {t : TA} {p p2 kp pos : Pos} (hu : X.A.units + 64 < cLine) (hg : Gl X "sorted") (hm : X.mg "sorted" = none) (hg2 : Gl X "len") (hm2 : X.mg "len" = none) (ha : PA X [e] t)
    (he : backTo pos (starEach [e] X.env) = (false, eval e X.env) :: backTo pos (starEach [] X.env) := by rfl) (hpl : (backTo pos (starEach [e] X.env)).any (·.1) = false := by rfl) :
    PE X (.Call (.Name "sorted" p) [e] [⟨some "key", .Name "len" p2, kp⟩] pos) (tSortLen X.K t) := by
  refine ⟨fun pins s σ H Q I h => ?_⟩
  refine wpAny_Call_Name_kw (ld_blt I hg hm (u := .builtin "sorted") (by decide +kernel) ?_)
  refine PyProof.Rows.callWith_kw (thn (ha.run pos pins s σ H _ I h) fun us s1 ⟨vs, H1, I1, r1, q1⟩ => ?_) he hpl
  obtain ⟨a, ts, rfl, hs, hb, q⟩ := q1
  obtain ⟨u, rfl, ru⟩ := vals1 r1
  obtain rfl : u = Value.ref a := ru
  show wpAny _ _ (evalAll ((do let v ← eval (.Name "len" p2) X.env; standAt pos; pure v) :: [])) _ _ s1
  refine wpAny_evalAll_cons (wpAny_bind (ld_blt I1 hg2 hm2 (u := .builtin "len") (by decide +kernel) (wpAny_bind (wpAny_standAt (wpAny_pure ?_)))))
  refine wpAny_evalAll_nil ?_
  obtain ⟨its, rv, hl, hz⟩ := I1.list hs
  have hz' : ts.length ≤ sizeLine := by rw [List.length_map] at hz; exact hz
  have e := each_vals tx rv
  show wpAny _ _ (call (.builtin "sorted") [.ref a] [(Str.ofString "key", .builtin "len")]) _ _ s1
  refine PySem.W.sorted_key_data (b := false) (fun t : List Nat => PyData.int (t.length : Nat)) hl.isList e (PySem.W.AllAlike.of fun _ _ => by simp [PySem.W.alike]) (PySem.W.Sortable.others fun _ => ⟨by simp, by simp⟩) hz' (fun t _ => ?_) (PyProof.Rows.ksk_s1 _ _) (fun _ => PyProof.Rows.ksk_l1 _ _) (fun _ => PyProof.Rows.ksk_t4 _ _)
    (fun v t hR ht h tk kp => ?_) fun out c h' tk kp hn hD hlen eo => ?_
  · show X.A.units + 2 + 0 < cLine
    omega
  · obtain ⟨t', rfl⟩ := (show ∃ t', v = Value.str (mk t) t' from hR)
    have := hb t ht
    refine len_str (by rw [mk_len]; omega) ?_
    exact ⟨h, _, rfl, fun _ _ z => z, by rw [mk_len]; exact .int _ _⟩
  · have ms : (ts.mergeSort (PySem.W.dataLe false fun t : List Nat => PyData.int (t.length : Nat))) = ts.mergeSort (fun a b => decide (a.length ≤ b.length)) := by
      rw [PySem.W.dataLe_int]
      congr 1
      funext a b
      exact decide_eq_decide.mpr (by omega)
    rw [ms] at eo
    have len : (ts.mergeSort (fun a b => decide (a.length ≤ b.length))).length = ts.length := List.length_mergeSort _
    have vo := vals_each tx eo
    exact ⟨.ref _, upd H1 (s1.heap.objs.size + 1) (.lst ((ts.mergeSort (fun a b => decide (a.length ≤ b.length))).map tx)), I1.laid (t' := tk) kp (Nat.le_succ _) ⟨by rw [List.length_map, len]; exact hz', out, c, vo, by simpa using hD⟩, rfl, q _ (I1.hok.fresh (Nat.le_succ _))⟩
end
/-! ### what is sorted -/
theorem alike_strs (ts : List (List Nat)) : PySem.W.AllAlike (ts.map fun t => PyData.str (mk t)) := PySem.W.AllAlike.of fun _ _ => by simp [PySem.W.alike]
theorem sortable_strs (ts : List (List Nat)) : PySem.W.Sortable (ts.map fun t => PyData.str (mk t)) := PySem.W.Sortable.others fun _ => ⟨by simp, by simp⟩
theorem le_strs : PySem.W.dataLe false (fun t : List Nat => PyData.str (mk t)) = fun a b => decide (a ≤ b) := PySem.W.dataLe_str (fun t : List Nat => mk t)
end Rx
set_option Elab.async false
set_option linter.all false
set_option maxRecDepth 100000
set_option maxHeartbeats 4000000
/-! Nd: dicts whose keys are words -/
namespace Nd
open PySem PySem.Spec PyProof.Rows L2 Evl Bx
open Tm (Wd Terms tot)
section
variable {α : Type}
def enc (v : α → V) (l : List (Wd × α)) : List (Key × V) := l.map fun e => (Sum.inr (mk e.1), v e.2)
def val (l : List (Wd × α)) (w : Wd) : Option α := (l.find? fun e => decide (e.1 = w)).map (·.2)
theorem val_pos {e : Wd × α} {l : List (Wd × α)} {w : Wd} (h : e.1 = w) : val (e :: l) w = some e.2 := by simp [val, List.find?_cons, h]
theorem val_neg {e : Wd × α} {l : List (Wd × α)} {w : Wd} (h : e.1 ≠ w) : val (e :: l) w = val l w := by simp [val, List.find?_cons, h]
theorem key_inj {u w : Wd} : ((Sum.inr (mk u) : Key) = Sum.inr (mk w)) ↔ u = w := ⟨fun h => mk_inj.mp (Sum.inr.inj h), fun h => by rw [h]⟩
theorem val_enc (v : α → V) (w : Wd) : ∀ l : List (Wd × α), valV (enc v l) (.inr (mk w)) = (val l w).map v
  | [] => rfl
  | e :: l => by
    by_cases h : e.1 = w
    · rw [val_pos h]
      exact valV_pos (p := (Sum.inr (mk e.1), v e.2)) (by rw [h])
    · rw [val_neg h]
      exact (valV_neg (p := (Sum.inr (mk e.1), v e.2)) fun z => h (key_inj.mp z)).trans (val_enc v w l)
theorem put_new {v : α → V} {l : List (Wd × α)} {w : Wd} {x : α} (h : val l w = none) : putK (enc v l) (.inr (mk w)) (v x) = enc v (l ++ [(w, x)]) := by
  rw [putK_new (v x) (by rw [val_enc, h]; rfl)]
  unfold enc
  rw [List.map_append]
  rfl
def upd1 (l : List (Wd × α)) (w : Wd) (x : α) : List (Wd × α) := l.map fun e => if e.1 = w then (e.1, x) else e
theorem put_old {v : α → V} {l : List (Wd × α)} {w : Wd} {x y : α} (h : val l w = some y) : putK (enc v l) (.inr (mk w)) (v x) = enc v (upd1 l w x) := by
  unfold putK
  rw [valV_any, val_enc, h]
  show List.map _ (enc v l) = _
  unfold enc upd1
  rw [List.map_map, List.map_map]
  refine List.map_congr_left fun e _ => ?_
  show (if (Sum.inr (mk e.1) : Key) = Sum.inr (mk w) then _ else _) = _
  by_cases z : e.1 = w
  · rw [if_pos (key_inj.mpr z)]
    show _ = (Sum.inr (mk (if e.1 = w then (e.1, x) else e).1), v (if e.1 = w then (e.1, x) else e).2)
    rw [if_pos z]
  · rw [if_neg fun q => z (key_inj.mp q)]
    show _ = (Sum.inr (mk (if e.1 = w then (e.1, x) else e).1), v (if e.1 = w then (e.1, x) else e).2)
    rw [if_neg z]
theorem keys_upd1 (l : List (Wd × α)) (w : Wd) (x : α) : (upd1 l w x).map (·.1) = l.map (·.1) := by
  unfold upd1
  rw [List.map_map]
  refine List.map_congr_left fun e _ => ?_
  show (if e.1 = w then (e.1, x) else e).1 = e.1
  split <;> rfl
theorem val_none {l : List (Wd × α)} {w : Wd} : val l w = none ↔ w ∉ l.map (·.1) := by
  induction l with
  | nil => simp [val]
  | cons e l ih =>
    by_cases h : e.1 = w
    · rw [val_pos h]
      simp [h]
    · rw [val_neg h, ih, List.map_cons, List.mem_cons, not_or]
      exact ⟨fun q => ⟨fun z => h z.symm, q⟩, fun q => q.2⟩
theorem val_mem {l : List (Wd × α)} {w : Wd} {x : α} (h : val l w = some x) : (w, x) ∈ l := by
  induction l with
  | nil => simp [val] at h
  | cons e l ih =>
    by_cases z : e.1 = w
    · rw [val_pos z] at h
      cases h
      rw [← z]
      exact List.mem_cons_self
    · rw [val_neg z] at h
      exact List.mem_cons_of_mem _ (ih h)
theorem mem_val {l : List (Wd × α)} (nd : (l.map (·.1)).Nodup) {w : Wd} {x : α} (h : (w, x) ∈ l) : val l w = some x := by
  induction l with
  | nil => cases h
  | cons e l ih =>
    have nd' := List.nodup_cons.mp nd
    rcases List.mem_cons.mp h with z | z
    · rw [← z]
      exact val_pos rfl
    · have : e.1 ≠ w := fun q => nd'.1 (by show e.1 ∈ _; rw [q]; exact List.mem_map_of_mem (f := (·.1)) z)
      rw [val_neg this]
      exact ih nd'.2 z
theorem enc_len (v : α → V) (l : List (Wd × α)) : (enc v l).length = l.length := List.length_map _
theorem enc_keys (v : α → V) (l : List (Wd × α)) : (enc v l).map (fun e => kV e.1) = (l.map (·.1)).map tx := by
  unfold enc
  rw [List.map_map, List.map_map]
  rfl
theorem enc_at {v : α → V} {l : List (Wd × α)} {i : Nat} {k : Key} {x : V} (h : (enc v l)[i]? = some (k, x)) : ∃ e, l[i]? = some e ∧ k = .inr (mk e.1) ∧ x = v e.2 := by
  unfold enc at h
  rw [List.getElem?_map] at h
  cases q : l[i]? with
  | none => rw [q] at h; cases h
  | some e =>
    rw [q] at h
    cases h
    exact ⟨e, rfl, rfl, rfl⟩
end
/-! ### numbers that are added up -/
theorem tot_val {l : Terms} (nd : (l.map (·.1)).Nodup) (w : Wd) : tot l w = (val l w).getD 0 := by
  induction l with
  | nil => rfl
  | cons e l ih =>
    have nd' := List.nodup_cons.mp nd
    show (if e.1 = w then e.2 else 0) + tot l w = _
    by_cases h : e.1 = w
    · rw [if_pos h, val_pos h, Tm.tot_none fun x hx q => nd'.1 (by show e.1 ∈ _; rw [h, ← q]; exact List.mem_map_of_mem (f := (·.1)) hx)]
      show e.2 + 0 = e.2
      omega
    · rw [if_neg h, val_neg h, ih nd'.2]
      omega
/-- a number more -/
def more (l : Terms) (w : Wd) (n : Int) : Terms := match val l w with
  | none => l ++ [(w, n)]
  | some m => upd1 l w (m + n)
theorem put_more (l : Terms) (w : Wd) (n : Int) : putK (enc V.int l) (.inr (mk w)) (.int ((val l w).getD 0 + n)) = enc V.int (more l w n) := by
  unfold more
  cases h : val l w with
  | none =>
    show putK _ _ (.int (0 + n)) = _
    rw [Int.zero_add]
    exact put_new h
  | some m => exact put_old h
theorem more_keys (l : Terms) (w : Wd) (n : Int) : ∀ x, x ∈ (more l w n).map (·.1) ↔ x ∈ l.map (·.1) ∨ x = w := by
  intro x
  unfold more
  cases h : val l w with
  | none => simp [List.map_append]
  | some m =>
    show x ∈ (upd1 l w (m + n)).map (·.1) ↔ _
    rw [keys_upd1]
    refine ⟨.inl, fun z => z.elim id fun q => ?_⟩
    rw [q]
    exact List.mem_map_of_mem (f := (·.1)) (val_mem h)
theorem more_nodup {l : Terms} {w : Wd} {n : Int} (nd : (l.map (·.1)).Nodup) : ((more l w n).map (·.1)).Nodup := by
  unfold more
  cases h : val l w with
  | none =>
    show ((l ++ [(w, n)]).map (·.1)).Nodup
    rw [List.map_append]
    refine List.nodup_append.mpr ⟨nd, by simp, fun a ha b hb q => ?_⟩
    simp at hb
    exact val_none.mp h (by rw [← hb, ← q]; exact ha)
  | some m =>
    show ((upd1 l w (m + n)).map (·.1)).Nodup
    rw [keys_upd1]
    exact nd
theorem more_len (l : Terms) (w : Wd) (n : Int) : (more l w n).length ≤ l.length + 1 := by
  unfold more
  cases h : val l w with
  | none => simp
  | some m =>
    show (upd1 l w (m + n)).length ≤ _
    unfold upd1
    rw [List.length_map]
    omega
theorem upd1_none {l : Terms} {w : Wd} (x : Int) (h : w ∉ l.map (·.1)) : upd1 l w x = l := by
  unfold upd1
  conv => rhs; rw [← List.map_id l]
  refine List.map_congr_left fun e he => ?_
  show (if e.1 = w then (e.1, x) else e) = e
  have ne : e.1 ≠ w := fun z => h (z ▸ List.mem_map_of_mem (f := (·.1)) he)
  rw [if_neg ne]
theorem tot_upd1 : ∀ {l : Terms} {w : Wd} {m : Int} (n : Int), (l.map (·.1)).Nodup → val l w = some m → ∀ x, tot (upd1 l w (m + n)) x = tot l x + if w = x then n else 0
  | [], _, _, _, _, h, _ => by simp [val] at h
  | e :: l, w, m, n, nd, h, x => by
    have nd' := List.nodup_cons.mp nd
    by_cases z : e.1 = w
    · rw [val_pos z] at h
      cases h
      have : upd1 (e :: l) w (e.2 + n) = (e.1, e.2 + n) :: upd1 l w (e.2 + n) := by
        show (if e.1 = w then (e.1, e.2 + n) else e) :: _ = _
        rw [if_pos z]
        rfl
      rw [this, upd1_none _ (z ▸ nd'.1)]
      show (if e.1 = x then e.2 + n else 0) + tot l x = (if e.1 = x then e.2 else 0) + tot l x + if w = x then n else 0
      rw [z]
      split <;> omega
    · rw [val_neg z] at h
      have : upd1 (e :: l) w (m + n) = e :: upd1 l w (m + n) := by
        show (if e.1 = w then (e.1, m + n) else e) :: _ = _
        rw [if_neg z]
        rfl
      rw [this]
      show (if e.1 = x then e.2 else 0) + tot (upd1 l w (m + n)) x = (if e.1 = x then e.2 else 0) + tot l x + _
      rw [tot_upd1 n nd'.2 h]
      omega
theorem more_tot {l : Terms} {w : Wd} {n : Int} (nd : (l.map (·.1)).Nodup) (x : Wd) : tot (more l w n) x = tot l x + if w = x then n else 0 := by
  unfold more
  cases h : val l w with
  | none =>
    show tot (l ++ [(w, n)]) x = _
    rw [Tm.tot_app]
    show tot l x + ((if w = x then n else 0) + 0) = _
    omega
  | some m => exact tot_upd1 n nd h x
end Nd
set_option Elab.async false
set_option linter.all false
set_option maxRecDepth 100000
set_option maxHeartbeats 4000000
/-! Nd2: walks over the items of a dict; lists of tuples -/
namespace Nd
open PySem PySem.Spec PyProof.Rows L2 Evl Bx
/-- for k, v in d.items() -/
theorem for_items {d : Addr} {o : Obj} {kvs : List (Key × V)} {g : TG} {tb : TS} {D : Ends} {σ : L2.St} {H : Hp} (Pv : Nat → L2.St → Hp → Prop) (h0 : Pv 0 σ H) (hl : ∀ i σ H, i ≤ kvs.length → Pv i σ H → H d = some (.frz o (.dK kvs)))
    (hs : ∀ i k v T σ H, kvs[i]? = some (k, v) → Pv i σ H → H T = none → g (.ref T) σ (upd H T (.tup [kV k, v])) fun σ2 H2 => tb { D with nx := Pv (i + 1), ct := Pv (i + 1), bk := D.nx } σ2 H2) (hd : ∀ σ H, Pv kvs.length σ H → D.nx σ H) :
    ∃ W : Nat → Nat → L2.St → Hp → Prop, (∃ m, W 0 m σ H) ∧ ∀ i m σ H, W i m σ H →
      ((Iti d o kvs).stop i H ∧ D.nx σ H) ∨ ((Iti d o kvs).go i H ∧ ∃ N : L2.St → Hp → Prop, (∀ σ' H', N σ' H' → ∃ m', m' < m ∧ W (i + 1) m' σ' H') ∧ ∀ x H', (Iti d o kvs).yld i H x H' → g x σ H' fun σ2 H2 => tb { D with nx := N, ct := N, bk := D.nx } σ2 H2) := by
  refine ⟨fun i m σ H => m = kvs.length - i ∧ i ≤ kvs.length ∧ Pv i σ H, ⟨kvs.length, by simp, Nat.zero_le _, h0⟩, ?_⟩
  rintro i m σ H ⟨rfl, hi, p⟩
  have q := hl i σ H hi p
  by_cases hlt : i < kvs.length
  · refine .inr ⟨⟨q, hlt⟩, Pv (i + 1), fun σ' H' p' => ⟨kvs.length - (i + 1), by omega, rfl, hlt, p'⟩, fun x H' y => ?_⟩
    obtain ⟨T, k, v, hk, rfl, hT, rfl⟩ := y
    exact hs i k v T σ H hk p hT
  · have e : i = kvs.length := by omega
    subst e
    exact .inl ⟨⟨q, Nat.le_refl _⟩, hd σ H p⟩
/-- {.. for k, v in d.items()} -/
theorem dc_items {d : Addr} {o : Obj} {ks : List (Key × V)} {g : TG} {tt : TT} {tk tv : TE} {vs : List Nat} {σ : L2.St} {H1 : Hp} {D : Addr} {Qd : Hp → Prop} (Pv : Nat → Hp → Prop) (h0 : Pv 0 (upd H1 D (.dK []))) (hl : ∀ i H, i ≤ ks.length → Pv i H → H d = some (.frz o (.dK ks)))
    (hs : ∀ i k v T H, ks[i]? = some (k, v) → Pv i H → H T = none → g (.ref T) (wipe σ vs) (upd H T (.tup [kV k, v])) fun σ2 H2 => wipe σ2 vs = wipe σ vs ∧ tt σ2 H2 fun b H3 =>
      if b = true then tk σ2 H3 fun y H4 => tv σ2 H4 fun z H5 => ∃ kvs k, y = kV k ∧ H5 D = some (.dK kvs) ∧ kvs.length < sizeLine ∧ Pv (i + 1) (upd H5 D (.dK (putK kvs k z))) else Pv (i + 1) H3) (hd : ∀ H, Pv ks.length H → Qd H) :
    ∃ W : Nat → Nat → Hp → Prop, (∃ m, W 0 m (upd H1 D (.dK []))) ∧ ∀ i m H, W i m H →
      ((Iti d o ks).stop i H ∧ Qd H) ∨ ((Iti d o ks).go i H ∧ ∃ Nx : Hp → Prop, (∀ H', Nx H' → ∃ m', m' < m ∧ W (i + 1) m' H') ∧ ∀ x H', (Iti d o ks).yld i H x H' → g x (wipe σ vs) H' fun σ2 H2 => wipe σ2 vs = wipe σ vs ∧ tt σ2 H2 fun b H3 =>
        if b = true then tk σ2 H3 fun y H4 => tv σ2 H4 fun z H5 => ∃ kvs k, y = kV k ∧ H5 D = some (.dK kvs) ∧ kvs.length < sizeLine ∧ Nx (upd H5 D (.dK (putK kvs k z))) else Nx H3) := by
  refine ⟨fun i m H => m = ks.length - i ∧ i ≤ ks.length ∧ Pv i H, ⟨ks.length, by simp, Nat.zero_le _, h0⟩, ?_⟩
  rintro i m H ⟨rfl, hi, p⟩
  have q := hl i H hi p
  by_cases hlt : i < ks.length
  · refine .inr ⟨⟨q, hlt⟩, Pv (i + 1), fun H' p' => ⟨ks.length - (i + 1), by omega, rfl, hlt, p'⟩, fun x H' y => ?_⟩
    obtain ⟨T, k, v, hk, rfl, hT, rfl⟩ := y
    exact hs i k v T H hk p hT
  · have e : i = ks.length := by omega
    subst e
    exact .inl ⟨⟨q, Nat.le_refl _⟩, hd H p⟩
/-- [.. for k, v in d.items()] -/
theorem lc_items {d : Addr} {o : Obj} {ks : List (Key × V)} {g : TG} {tt : TT} {te : TE} {vs : List Nat} {σ : L2.St} {H1 : Hp} {D : Addr} {Qd : Hp → Prop} (Pv : Nat → Hp → Prop) (h0 : Pv 0 (upd H1 D (.lst []))) (hl : ∀ i H, i ≤ ks.length → Pv i H → H d = some (.frz o (.dK ks)))
    (hs : ∀ i k v T H, ks[i]? = some (k, v) → Pv i H → H T = none → g (.ref T) (wipe σ vs) (upd H T (.tup [kV k, v])) fun σ2 H2 => wipe σ2 vs = wipe σ vs ∧ tt σ2 H2 fun b H3 =>
      if b = true then te σ2 H3 fun y H4 => ∃ acc, H4 D = some (.lst acc) ∧ acc.length < sizeLine ∧ Pv (i + 1) (upd H4 D (.lst (acc ++ [y]))) else Pv (i + 1) H3) (hd : ∀ H, Pv ks.length H → Qd H) :
    ∃ W : Nat → Nat → Hp → Prop, (∃ m, W 0 m (upd H1 D (.lst []))) ∧ ∀ i m H, W i m H →
      ((Iti d o ks).stop i H ∧ Qd H) ∨ ((Iti d o ks).go i H ∧ ∃ Nx : Hp → Prop, (∀ H', Nx H' → ∃ m', m' < m ∧ W (i + 1) m' H') ∧ ∀ x H', (Iti d o ks).yld i H x H' → g x (wipe σ vs) H' fun σ2 H2 => wipe σ2 vs = wipe σ vs ∧ tt σ2 H2 fun b H3 =>
        if b = true then te σ2 H3 fun y H4 => ∃ acc, H4 D = some (.lst acc) ∧ acc.length < sizeLine ∧ Nx (upd H4 D (.lst (acc ++ [y]))) else Nx H3) := by
  refine ⟨fun i m H => m = ks.length - i ∧ i ≤ ks.length ∧ Pv i H, ⟨ks.length, by simp, Nat.zero_le _, h0⟩, ?_⟩
  rintro i m H ⟨rfl, hi, p⟩
  have q := hl i H hi p
  by_cases hlt : i < ks.length
  · refine .inr ⟨⟨q, hlt⟩, Pv (i + 1), fun H' p' => ⟨ks.length - (i + 1), by omega, rfl, hlt, p'⟩, fun x H' y => ?_⟩
    obtain ⟨T, k, v, hk, rfl, hT, rfl⟩ := y
    exact hs i k v T H hk p hT
  · have e : i = ks.length := by omega
    subst e
    exact .inl ⟨⟨q, Nat.le_refl _⟩, hd H p⟩
/-! ### lists of tuples -/
section
variable {β : Type} {f : β → List V} {K : PySem.W.Frag}
def TW (K : PySem.W.Frag) (H : Hp) (f : β → List V) : List V → List β → Prop
  | [], [] => True
  | v :: vs, b :: bs => (∃ q, v = .ref q ∧ SqT K H q (f b)) ∧ TW K H f vs bs
  | _, _ => False
theorem TW.len : ∀ {H : Hp} {vs : List V} {bs : List β}, TW K H f vs bs → vs.length = bs.length
  | _, [], [], _ => rfl
  | _, _ :: _, _ :: _, h => congrArg (· + 1) (TW.len h.2)
  | _, [], _ :: _, h => h.elim
  | _, _ :: _, [], h => h.elim
theorem TW.imp : ∀ {H H' : Hp} {vs : List V} {bs : List β}, (∀ q xs, SqT K H q xs → SqT K H' q xs) → TW K H f vs bs → TW K H' f vs bs
  | _, _, [], [], _, _ => trivial
  | _, _, _ :: _, _ :: _, x, ⟨⟨q, e, h⟩, r⟩ => ⟨⟨q, e, x _ _ h⟩, r.imp x⟩
  | _, _, [], _ :: _, _, h => h.elim
  | _, _, _ :: _, [], _, h => h.elim
theorem TW.ex {H H' : Hp} {vs : List V} {bs : List β} (h : TW K H f vs bs) (x : Ex H H') : TW K H' f vs bs := h.imp fun _ _ z => ex_t x z
theorem TW.at : ∀ {H : Hp} {vs : List V} {bs : List β} {i : Nat} {v : V}, TW K H f vs bs → vs[i]? = some v → ∃ b q, bs[i]? = some b ∧ v = .ref q ∧ SqT K H q (f b)
  | _, v :: _, b :: _, 0, _, ⟨⟨q, h, t⟩, _⟩, x => by
    cases x
    exact ⟨b, q, rfl, h, t⟩
  | _, _ :: _, _ :: _, i + 1, _, ⟨_, r⟩, x => TW.at (i := i) r x
  | _, [], _, _, _, _, x => by simp at x
  | _, _ :: _, [], _, _, h, _ => h.elim
theorem TW.snoc : ∀ {H : Hp} {vs : List V} {bs : List β} {q : Addr} {b : β}, TW K H f vs bs → SqT K H q (f b) → TW K H f (vs ++ [.ref q]) (bs ++ [b])
  | _, [], [], q, b, _, h => ⟨⟨q, rfl, h⟩, trivial⟩
  | _, _ :: _, _ :: _, _, _, ⟨a, r⟩, h => ⟨a, r.snoc h⟩
  | _, [], _ :: _, _, _, h, _ => h.elim
  | _, _ :: _, [], _, _, h, _ => h.elim
theorem TW.app : ∀ {H : Hp} {vs us : List V} {bs cs : List β}, TW K H f vs bs → TW K H f us cs → TW K H f (vs ++ us) (bs ++ cs)
  | _, [], _, [], _, _, h => h
  | _, _ :: _, _, _ :: _, _, ⟨a, r⟩, h => ⟨a, r.app h⟩
  | _, [], _, _ :: _, _, h, _ => h.elim
  | _, _ :: _, _, [], _, h, _ => h.elim
theorem TW.rev : ∀ {H : Hp} {vs : List V} {bs : List β}, TW K H f vs bs → TW K H f vs.reverse bs.reverse
  | _, [], [], _ => trivial
  | _, v :: vs, b :: bs, ⟨a, r⟩ => by
    rw [List.reverse_cons, List.reverse_cons]
    exact r.rev.app ⟨a, trivial⟩
  | _, [], _ :: _, h => h.elim
  | _, _ :: _, [], h => h.elim
end
end Nd
set_option Elab.async false
set_option linter.all false
set_option maxRecDepth 100000
set_option maxHeartbeats 4000000
/-! Rk3: pairs of ranks, as data; the least new word; which places may go -/
namespace Rk
open Ar
theorem Rank.le {p : List Nat} {c k : Nat} (h : Rank p c k) : k ≤ p.length + 1 := by
  obtain ⟨⟨w, n, e⟩, _⟩ := h
  have := Ar.sub_len _ _ n.1
  rw [List.length_append] at this
  rw [← e]
  exact this
theorem Fr.le {t ns : List Nat} (h : Fr t ns) {i n : Nat} (hn : ns[i]? = some n) : n ≤ i + 1 := by
  have il := (List.getElem?_eq_some_iff.mp hn).1
  rw [h.len] at il
  have := (h.rank i _ n (List.getElem?_eq_getElem il) hn).le
  rw [List.length_take] at this
  omega
theorem Fr.one {t ns ms : List Nat} (h : Fr t ns) (g : Fr t ms) : ns = ms := by
  refine List.ext_getElem? fun i => ?_
  by_cases il : i < t.length
  · have h1 : ns[i]? = some (ns[i]'(by rw [h.len]; exact il)) := List.getElem?_eq_getElem _
    have g1 : ms[i]? = some (ms[i]'(by rw [g.len]; exact il)) := List.getElem?_eq_getElem _
    have e := (h.rank i _ _ (List.getElem?_eq_getElem il) h1).one (g.rank i _ _ (List.getElem?_eq_getElem il) g1)
    rw [h1, g1, e]
  · rw [List.getElem?_eq_none (by rw [h.len]; omega), List.getElem?_eq_none (by rw [g.len]; omega)]
/-- the pairs of ranks of the places of t -/
def Pr (t : List Nat) (ps : List (Nat × Nat)) : Prop := ∃ xs ys, Fr t xs ∧ Fr t.reverse ys ∧ ps = xs.zip ys.reverse
theorem Pr.len {t : List Nat} {ps : List (Nat × Nat)} (h : Pr t ps) : ps.length = t.length := by
  obtain ⟨xs, ys, hx, hy, rfl⟩ := h
  rw [List.length_zip, List.length_reverse, hx.len, hy.len, List.length_reverse, Nat.min_self]
theorem Pr.one {t : List Nat} {ps qs : List (Nat × Nat)} (h : Pr t ps) (g : Pr t qs) : ps = qs := by
  obtain ⟨xs, ys, hx, hy, rfl⟩ := h
  obtain ⟨us, vs, hu, hv, rfl⟩ := g
  rw [hx.one hu, hy.one hv]
theorem Pr.at {t : List Nat} {ps : List (Nat × Nat)} (h : Pr t ps) {i : Nat} {e : Nat × Nat} (he : ps[i]? = some e) :
    ∃ (il : i < t.length), Rank (t.take i) t[i] e.1 ∧ Rank (t.drop (i + 1)).reverse t[i] e.2 := by
  have il := (List.getElem?_eq_some_iff.mp he).1
  rw [h.len] at il
  obtain ⟨xs, ys, hx, hy, rfl⟩ := h
  obtain ⟨x, y⟩ := e
  rw [List.getElem?_zip_eq_some] at he
  obtain ⟨h1, h2⟩ := he
  have yl : ys.length = t.length := by rw [hy.len, List.length_reverse]
  refine ⟨il, hx.rank i _ _ (List.getElem?_eq_getElem il) h1, ?_⟩
  rw [List.getElem?_reverse (by omega), yl] at h2
  have hr : t.reverse[t.length - 1 - i]? = some t[i] := by
    rw [List.getElem?_reverse (by omega), show t.length - 1 - (t.length - 1 - i) = i from by omega]
    exact List.getElem?_eq_getElem il
  have r := hy.rank _ _ _ hr h2
  rw [List.take_reverse, show t.length - (t.length - 1 - i) = i + 1 from by omega] at r
  exact r
theorem Pr.sum {t : List Nat} {ps : List (Nat × Nat)} (h : Pr t ps) {i : Nat} {e : Nat × Nat} (he : ps[i]? = some e) : e.1 + e.2 ≤ t.length + 1 ∧ e.1 ≤ t.length ∧ e.2 ≤ t.length := by
  obtain ⟨il, h1, h2⟩ := h.at he
  have a := h1.le
  have b := h2.le
  rw [List.length_take] at a
  rw [List.length_reverse, List.length_drop] at b
  omega
theorem Pr.small {t : List Nat} {ps : List (Nat × Nat)} (h : Pr t ps) : ∀ e ∈ ps, e.1 ≤ t.length ∧ e.2 ≤ t.length := fun e he => by
  obtain ⟨i, hi⟩ := List.getElem?_of_mem he
  exact (h.sum hi).2
/-- the least word that is new -/
def news (A p : List Nat) (c n : Nat) : List (List Nat) := ((Rd.reads A (p ++ [c]) n).filter fun w => decide (w.drop (w.length - 1) = [c])).filter fun w => !sub w p
theorem news_iff {A p w : List Nat} {c n : Nat} (hA : ∀ x ∈ p ++ [c], x ∈ A) (hn : p.length + 1 ≤ n) : w ∈ news A p c n ↔ New p c w := by
  unfold news
  rw [List.mem_filter, List.mem_filter, Rd.reads_mem]
  constructor
  · rintro ⟨⟨⟨_, _, h1⟩, _⟩, h2⟩
    exact ⟨h1, by simpa using h2⟩
  · intro h
    obtain ⟨u, rfl, hu⟩ := h.last
    have l := Ar.sub_len _ _ h.1
    rw [List.length_append, List.length_append, List.length_singleton] at l
    refine ⟨⟨⟨by rw [List.length_append, List.length_singleton]; omega, fun x hx => hA x (Rd.sub_letters h.1 x hx), h.1⟩, ?_⟩, by rw [h.2]; rfl⟩
    refine decide_eq_true ?_
    rw [List.length_append, List.length_singleton, Nat.add_sub_cancel, List.drop_left]
theorem sub_self : ∀ w : List Nat, sub w w = true
  | [] => rfl
  | a :: w => by
    show (if a = a then sub w w else sub (a :: w) w) = true
    rw [if_pos rfl]
    exact sub_self w
theorem new_whole (p : List Nat) (c : Nat) : New p c (p ++ [c]) := by
  refine ⟨sub_self _, ?_⟩
  cases h : sub (p ++ [c]) p with
  | false => rfl
  | true =>
    have := sub_len _ _ h
    rw [List.length_append, List.length_singleton] at this
    omega
theorem least_rank {A p : List Nat} {c n m : Nat} (hA : ∀ x ∈ p ++ [c], x ∈ A) (hn : p.length + 1 ≤ n) (hm : m ∈ (news A p c n).map (·.length)) (low : ∀ y ∈ (news A p c n).map (·.length), m ≤ y) : Rank p c m := by
  obtain ⟨w, hw, e⟩ := List.mem_map.mp hm
  exact ⟨⟨w, (news_iff hA hn).mp hw, e⟩, fun u hu => low _ (List.mem_map_of_mem (f := (·.length)) ((news_iff hA hn).mpr hu))⟩
theorem news_some (A p : List Nat) (c n : Nat) (hA : ∀ x ∈ p ++ [c], x ∈ A) (hn : p.length + 1 ≤ n) : 0 < (news A p c n).length := List.length_pos_of_mem ((news_iff hA hn).mpr (new_whole p c))
/-- how many texts are read -/
theorem reads_len {L t : List Nat} {m : Nat} (hm : 1 ≤ m) (hl : L.length ≤ m) : ∀ n : Nat, (Rd.reads L t n).length ≤ (n + 1) * m ^ n
  | 0 => by
    show 1 ≤ _
    rw [Nat.pow_zero]
    exact Nat.le_refl _
  | n + 1 => by
    show (Rd.reads L t n ++ Rd.level L t (n + 1)).length ≤ _
    have h1 := reads_len (t := t) hm hl n
    have h2 : (Rd.level L t (n + 1)).length ≤ m ^ (n + 1) := by
      rw [Rd.level_eq]
      refine Nat.le_trans (List.length_filter_le _ _) ?_
      rw [Lx.wd_len]
      exact Nat.pow_le_pow_left hl _
    have h3 : m ^ n ≤ m ^ (n + 1) := Nat.pow_le_pow_right hm (Nat.le_succ n)
    rw [List.length_append]
    have h4 := Nat.mul_le_mul_left (n + 1) h3
    have e : (n + 1 + 1) * m ^ (n + 1) = (n + 1) * m ^ (n + 1) + m ^ (n + 1) := by rw [Nat.add_mul, Nat.one_mul]
    omega
theorem level_len {L t : List Nat} {m : Nat} (hl : L.length ≤ m) (n : Nat) : (Rd.level L t n).length ≤ m ^ n := by
  rw [Rd.level_eq]
  refine Nat.le_trans (List.length_filter_le _ _) ?_
  rw [Lx.wd_len]
  exact Nat.pow_le_pow_left hl _
/-- the places that may go -/
def go (d : Nat) (ps : List (Nat × Nat)) : List Nat := (List.range ps.length).filter fun i => decide (d + 1 < (ps.getD i (0, 0)).1 + (ps.getD i (0, 0)).2)
theorem go_reads {A t : List Nat} {ps : List (Nat × Nat)} (h : Pr t ps) (hA : ∀ x ∈ t, x ∈ A) (d : Nat) {i : Nat} (hi : i < t.length) :
    (Rd.reads A (t.take i ++ t.drop (i + 1)) d = Rd.reads A t d) ↔ d + 1 < (ps.getD i (0, 0)).1 + (ps.getD i (0, 0)).2 := by
  have pl := h.len
  have he : ps[i]? = some (ps[i]'(by omega)) := List.getElem?_eq_getElem _
  obtain ⟨il, h1, h2⟩ := h.at he
  have ed : ps.getD i (0, 0) = ps[i]'(by omega) := by rw [List.getD_eq_getElem?_getD, he]; rfl
  have et : t = t.take i ++ t[i] :: t.drop (i + 1) := by rw [List.getElem_cons_drop, List.take_append_drop]
  have g := may_go h1 h2 d
  rw [ed, ← g, ← et, Rd.reads_same (fun c hc => ?_) hA]
  · exact ⟨fun q w wl => (q w wl).symm, fun q w wl => (q w wl).symm⟩
  · rcases List.mem_append.mp hc with z | z
    · exact hA c (List.mem_of_mem_take z)
    · exact hA c (List.mem_of_mem_drop z)
theorem go_cap {t : List Nat} {ps : List (Nat × Nat)} (h : Pr t ps) (d : Nat) : go (min d (t.length + 1)) ps = go d ps := by
  unfold go
  refine List.filter_congr fun i hi => ?_
  have il := List.mem_range.mp hi
  have he : ps[i]? = some (ps[i]'il) := List.getElem?_eq_getElem _
  have ed : ps.getD i (0, 0) = ps[i]'il := by rw [List.getD_eq_getElem?_getD, he]; rfl
  have s := (h.sum he).1
  rw [ed]
  exact decide_eq_decide.mpr ⟨fun z => by omega, fun z => by omega⟩
end Rk
namespace Rk
open PySem PySem.Spec PyProof.Rows L2 Evl Bx
/-- a list of pairs of numbers in memory -/
abbrev fP (e : Nat × Nat) : List V := [.int (e.1 : Nat), .int (e.2 : Nat)]
def PL (K : PySem.W.Frag) (H : Hp) (p : Addr) (ps : List (Nat × Nat)) : Prop := ∃ vs, H p = some (.lst vs) ∧ Nd.TW K H fP vs ps
theorem PL.ex {K : PySem.W.Frag} {H H' : Hp} {p : Addr} {ps : List (Nat × Nat)} (h : PL K H p ps) (x : Ex H H') : PL K H' p ps := by
  obtain ⟨vs, h1, h2⟩ := h
  exact ⟨vs, x _ _ h1, h2.ex x⟩
def dP (ps : List (Nat × Nat)) : PyData := .list (ps.map fun e => .tuple [.int (e.1 : Nat), .int (e.2 : Nat)])
theorem dp_tw {K : PySem.W.Frag} {H : Hp} : ∀ {vs : List V} {ps : List (Nat × Nat)}, Nd.TW K H fP vs ps → DpAll K H vs (ps.map fun e => .tuple [.int (e.1 : Nat), .int (e.2 : Nat)])
  | [], [], _ => .nil
  | _ :: _, [], h => h.elim
  | [], _ :: _, h => h.elim
  | v :: vs, e :: ps, ⟨⟨q, hv, ht⟩, r⟩ => by
    rw [hv]
    exact .cons (.tup ht (.cons (.int _) (.cons (.int _) .nil))) (dp_tw r)
theorem PL.dp {K : PySem.W.Frag} {H : Hp} {p : Addr} {ps : List (Nat × Nat)} (h : PL K H p ps) : Dp K H (.ref p) (dP ps) := by
  obtain ⟨vs, h1, h2⟩ := h
  exact .lst (.inl (.inl h1)) (dp_tw h2)
theorem dP_ok {ps : List (Nat × Nat)} (few : ps.length ≤ 1000) (hs : ∀ e ∈ ps, e.1 ≤ 1000 ∧ e.2 ≤ 1000) : (dP ps).showable = true ∧ (dP ps).shown.length ≤ sizeLine ∧ (dP ps).depth ≤ 60 := by
  have sm : ∀ n : Nat, n ≤ 1000 → ((n : Nat) : Int).natAbs < 2 ^ 10 := fun n h => by rw [Int.natAbs_natCast]; omega
  unfold dP
  refine ⟨?_, ?_, ?_⟩
  · simp only [PyData.showable]
    refine Ty.showAll fun x hx => ?_
    obtain ⟨e, he, rfl⟩ := List.mem_map.mp hx
    simp only [PyData.showable]
    refine Ty.showAll fun y hy => ?_
    simp only [List.mem_cons, List.not_mem_nil, or_false] at hy
    rcases hy with h | h <;> rw [h]
    · exact Rep.wide_show (b := 10) (by decide) (sm _ (hs e he).1)
    · exact Rep.wide_show (b := 10) (by decide) (sm _ (hs e he).2)
  · have h1 := Rep.list_le (xs := ps.map fun e => PyData.tuple [.int (e.1 : Nat), .int (e.2 : Nat)]) (k := 30) fun x hx => by
      obtain ⟨e, he, rfl⟩ := List.mem_map.mp hx
      have h2 := Ty.tuple_le (xs := [.int (e.1 : Nat), .int (e.2 : Nat)]) (k := 11) fun y hy => by
        simp only [List.mem_cons, List.not_mem_nil, or_false] at hy
        rcases hy with h | h <;> rw [h]
        · exact Rep.wide_le (b := 10) (by decide) (sm _ (hs e he).1)
        · exact Rep.wide_le (b := 10) (by decide) (sm _ (hs e he).2)
      have h3 : [PyData.int (e.1 : Nat), PyData.int (e.2 : Nat)].length = 2 := rfl
      rw [h3] at h2
      omega
    rw [List.length_map] at h1
    exact Nat.le_trans h1 (sz_of (by omega))
  · have key : ∀ ps : List (Nat × Nat), PyData.depthAll (ps.map fun e => PyData.tuple [.int (e.1 : Nat), .int (e.2 : Nat)]) ≤ 2 := by
      intro ps
      induction ps with
      | nil => exact Nat.zero_le _
      | cons e r ih =>
        show max (max 0 (max 0 0) + 1) (PyData.depthAll (r.map fun e => PyData.tuple [.int (e.1 : Nat), .int (e.2 : Nat)])) ≤ 2
        omega
    show PyData.depthAll (ps.map fun e => PyData.tuple [.int (e.1 : Nat), .int (e.2 : Nat)]) + 1 ≤ 60
    have := key ps
    omega
/-- a list of small numbers, as data -/
def dN (ns : List Nat) : PyData := .list (ns.map fun n => .int (n : Nat))
theorem dp_ns {K : PySem.W.Frag} {H : Hp} : ∀ ns : List Nat, DpAll K H (ns.map fun n => V.int (n : Nat)) (ns.map fun n => PyData.int (n : Nat))
  | [] => .nil
  | n :: ns => .cons (.int _) (dp_ns ns)
theorem dN_ok {ns : List Nat} (few : ns.length ≤ 1000) (hs : ∀ n ∈ ns, n ≤ 1000) : (dN ns).showable = true ∧ (dN ns).shown.length ≤ sizeLine ∧ (dN ns).depth ≤ 60 := by
  have sm : ∀ n : Nat, n ≤ 1000 → ((n : Nat) : Int).natAbs < 2 ^ 10 := fun n h => by rw [Int.natAbs_natCast]; omega
  unfold dN
  refine ⟨?_, ?_, ?_⟩
  · simp only [PyData.showable]
    refine Ty.showAll fun x hx => ?_
    obtain ⟨n, hn, rfl⟩ := List.mem_map.mp hx
    exact Rep.wide_show (b := 10) (by decide) (sm _ (hs n hn))
  · have h1 := Rep.list_le (xs := ns.map fun n => PyData.int (n : Nat)) (k := 11) fun x hx => by
      obtain ⟨n, hn, rfl⟩ := List.mem_map.mp hx
      exact Rep.wide_le (b := 10) (by decide) (sm _ (hs n hn))
    rw [List.length_map] at h1
    exact Nat.le_trans h1 (sz_of (by omega))
  · have key : ∀ ns : List Nat, PyData.depthAll (ns.map fun n => PyData.int (n : Nat)) ≤ 0 := by
      intro ns
      induction ns with
      | nil => exact Nat.zero_le _
      | cons e r ih =>
        show max 0 (PyData.depthAll (r.map fun n => PyData.int (n : Nat))) ≤ 0
        omega
    show PyData.depthAll (ns.map fun n => PyData.int (n : Nat)) + 1 ≤ 60
    have := key ns
    omega
end Rk
namespace Rk
theorem zip_parts : ∀ ps : List (Nat × Nat), (ps.map (·.1)).zip (ps.map (·.2)) = ps
  | [] => rfl
  | e :: ps => by rw [List.map_cons, List.map_cons, List.zip_cons_cons, zip_parts ps]
theorem Pr.of {t : List Nat} {ps : List (Nat × Nat)} (l : ps.length = t.length) (h : ∀ j e c, ps[j]? = some e → t[j]? = some c → Rank (t.take j) c e.1 ∧ Rank (t.drop (j + 1)).reverse c e.2) : Pr t ps := by
  refine ⟨ps.map (·.1), (ps.map (·.2)).reverse, ⟨by rw [List.length_map, l], fun i c n hc hn => ?_⟩, ⟨by rw [List.length_reverse, List.length_map, l, List.length_reverse], fun i c n hc hn => ?_⟩, by rw [List.reverse_reverse, zip_parts]⟩
  · rw [List.getElem?_map] at hn
    cases he : ps[i]? with
    | none => rw [he] at hn; cases hn
    | some e =>
      rw [he] at hn
      cases hn
      exact (h i e c he hc).1
  · have il := (List.getElem?_eq_some_iff.mp hc).1
    rw [List.length_reverse] at il
    rw [List.getElem?_reverse (by rw [List.length_map]; omega), List.length_map, l, List.getElem?_map] at hn
    rw [List.getElem?_reverse il] at hc
    cases he : ps[t.length - 1 - i]? with
    | none => rw [he] at hn; cases hn
    | some e =>
      rw [he] at hn
      cases hn
      have r := (h _ e c he hc).2
      rw [List.take_reverse]
      rw [show t.length - 1 - i + 1 = t.length - i from by omega] at r
      exact r
end Rk
set_option Elab.async false
set_option linter.all false
/-! Cv: slices of lists -/
namespace Cv
open PySem PySem.Spec PyProof.Rows L2 Evl Bx
theorem cut_from (xs : List V) (i : Nat) : cutV xs (some ((i : Nat) : Int)) none = xs.drop i := by
  unfold cutV
  rw [ix_nat, HT.sIx_none]
  by_cases h : i ≤ xs.length
  · rw [Nat.min_eq_left h, List.take_of_length_le (by rw [List.length_drop]; omega)]
  · rw [Nat.min_eq_right (by omega), List.drop_of_length_le (Nat.le_refl _), List.drop_of_length_le (show xs.length ≤ i by omega), List.take_nil]
theorem cut_to (xs : List V) (i : Nat) : cutV xs none (some ((i : Nat) : Int)) = xs.take i := by
  unfold cutV
  rw [ix_nat, HT.sIx_none, List.drop_zero, Nat.sub_zero]
  by_cases h : i ≤ xs.length
  · rw [Nat.min_eq_left h]
  · rw [Nat.min_eq_right (by omega), List.take_of_length_le (Nat.le_refl _), List.take_of_length_le (by omega)]
end Cv
set_option Elab.async false
set_option linter.all false
set_option maxRecDepth 100000
set_option maxHeartbeats 4000000
/-! Fd: text.find(letter, place) -/
namespace Fd
open PySem PySem.Spec PyProof.Rows L2 Evl Bx Builtin.Str
theorem occ_done (x y : Str) (hi p : Nat) : ∀ (l : List Nat) (k : Nat), (forIn (m := Id) l ((#[p] : Array Nat), k) (StrLaws.occBody x y hi 1)).run.fst = #[p] := by
  intro l
  induction l with
  | nil => intro k; rfl
  | cons i r ih =>
    intro k
    have h : ¬ ((((#[p] : Array Nat).size < 1 ∧ k ≤ i) ∧ i + y.length ≤ hi) ∧ subAt x y i = true) := fun c => by
      have := c.1.1.1
      simp at this
    simp only [List.forIn_cons, StrLaws.occBody, if_neg h]
    exact ih k
theorem occ_one (x y : Str) (hi : Nat) : ∀ (l : List Nat) (k : Nat), (∀ i ∈ l, k ≤ i) → ((forIn (m := Id) l ((#[] : Array Nat), k) (StrLaws.occBody x y hi 1)).run.fst).toList = (l.find? fun i => decide (i + y.length ≤ hi) && subAt x y i).toList := by
  intro l
  induction l with
  | nil => intro k _; rfl
  | cons i r ih =>
    intro k hk
    have ki := hk i List.mem_cons_self
    by_cases h : i + y.length ≤ hi ∧ subAt x y i = true
    · have c : (((#[] : Array Nat).size < 1 ∧ k ≤ i) ∧ i + y.length ≤ hi) ∧ subAt x y i = true := ⟨⟨⟨by simp, ki⟩, h.1⟩, h.2⟩
      rw [List.find?_cons_of_pos (by rw [decide_eq_true h.1, h.2]; rfl)]
      simp only [List.forIn_cons, StrLaws.occBody, if_pos c]
      have := occ_done x y hi i r (i + y.length)
      show ((forIn (m := Id) r ((#[] : Array Nat).push i, i + y.length) (StrLaws.occBody x y hi 1)).run.fst).toList = _
      rw [show (#[] : Array Nat).push i = #[i] from rfl, this]
      rfl
    · have c : ¬ ((((#[] : Array Nat).size < 1 ∧ k ≤ i) ∧ i + y.length ≤ hi) ∧ subAt x y i = true) := fun z => h ⟨z.1.2, z.2⟩
      rw [List.find?_cons_of_neg (by
        intro z
        rw [Bool.and_eq_true, decide_eq_true_eq] at z
        exact h z)]
      simp only [List.forIn_cons, StrLaws.occBody, if_neg c]
      exact ih k fun j hj => hk j (List.mem_cons_of_mem _ hj)
theorem sub_one (t : List Nat) (c i : Nat) : subAt (mk t) (mk [c]) i = decide (t[i]? = some c) := by
  unfold Builtin.Str.subAt
  show (t.toArray.extract i (i + [c].toArray.size) == [c].toArray) = _
  have key : (t.toArray.extract i (i + [c].toArray.size) = [c].toArray) ↔ t[i]? = some c := by
    rw [List.extract_toArray, List.size_toArray]
    constructor
    · intro h
      have h2 := congrArg Array.toList h
      have h3 : (t.drop i).take 1 = [c] := by
        rw [List.extract_eq_take_drop] at h2
        simpa using h2
      have := congrArg (·[0]?) h3
      simpa [List.getElem?_take, List.getElem?_drop] using this
    · intro h
      obtain ⟨hl, he⟩ := List.getElem?_eq_some_iff.mp h
      rw [List.extract_eq_take_drop, List.length_singleton, Nat.add_sub_cancel_left, List.drop_eq_getElem_cons hl, he]
      rfl
  by_cases z : t.toArray.extract i (i + [c].toArray.size) = [c].toArray
  · rw [decide_eq_true (key.mp z)]
    exact beq_iff_eq.mpr z
  · rw [decide_eq_false (fun q => z (key.mpr q))]
    exact beq_eq_false_iff_ne.mpr z
theorem find_in (t : List Nat) (c : Nat) : ∀ (s : List Nat) (j : Nat), t.drop j = s → j ≤ t.length → ((List.range' j (s.length + 1)).find? fun i => decide (i + 1 ≤ t.length) && decide (t[i]? = some c)) = (Ar.after c s).map fun u => j + (s.length - u.length - 1)
  | [], j, h, hj => by
    have hl := congrArg List.length h
    rw [List.length_drop, List.length_nil] at hl
    show ([j].find? _) = none
    rw [List.find?_cons_of_neg (by
      intro z
      rw [Bool.and_eq_true, decide_eq_true_eq] at z
      omega)]
    rfl
  | b :: s, j, h, hj => by
    have hl := congrArg List.length h
    rw [List.length_drop, List.length_cons] at hl
    have jl : j < t.length := by omega
    have e := List.drop_eq_getElem_cons jl
    rw [h] at e
    have eb : t[j] = b := (List.cons.inj e).1.symm
    have es : t.drop (j + 1) = s := (List.cons.inj e).2.symm
    have ej : t[j]? = some b := by rw [List.getElem?_eq_getElem jl, eb]
    rw [List.length_cons, List.range'_succ]
    show _ = (if c = b then some s else Ar.after c s).map _
    by_cases q : c = b
    · rw [if_pos q, List.find?_cons_of_pos (by rw [ej, q, decide_eq_true rfl, decide_eq_true (by omega : j + 1 ≤ t.length)]; rfl)]
      show some j = some (j + (s.length + 1 - s.length - 1))
      congr 1
      omega
    · rw [if_neg q, List.find?_cons_of_neg (by
        intro z
        rw [Bool.and_eq_true, decide_eq_true_eq, decide_eq_true_eq, ej] at z
        exact q (Option.some.inj z.2).symm), find_in t c s (j + 1) es (by omega)]
      cases ha : Ar.after c s with
      | none => rfl
      | some u =>
        obtain ⟨v, hv, _⟩ := Ar.after_some ha
        have := congrArg List.length hv
        rw [List.length_append, List.length_cons] at this
        show some (j + 1 + (s.length - u.length - 1)) = some (j + (s.length + 1 - u.length - 1))
        congr 1
        omega
/-- the place of the first c from j on, -1 of none -/
def at_ (c : Nat) (t : List Nat) (j : Nat) : Int := match Ar.after c (t.drop j) with
  | none => -1
  | some u => ((t.length - u.length - 1 : Nat) : Int)
theorem find_at (t : List Nat) (c j : Nat) (hj : j ≤ t.length) : Txt.find3 (mk t) (mk [c]) (j : Nat) = at_ c t j := by
  have hf : fromIndex (mk t).length ((j : Nat) : Int) = j := by
    unfold fromIndex
    rw [if_neg (by omega)]
    omega
  unfold Txt.find3 at_
  rw [hf, mk_len, StrLaws.occ_eq]
  have h1 := occ_one (mk t) (mk [c]) t.length (List.range' j (t.length + 1 - j)) j fun i hi => by
    have := List.mem_range'_1.mp hi
    omega
  rw [h1]
  have ln : t.length + 1 - j = (t.drop j).length + 1 := by rw [List.length_drop]; omega
  have h2 : (fun i => decide (i + (mk [c]).length ≤ t.length) && subAt (mk t) (mk [c]) i) = fun i => decide (i + 1 ≤ t.length) && decide (t[i]? = some c) := by
    funext i
    rw [sub_one, mk_len]
    rfl
  rw [ln, h2, find_in t c _ j rfl hj]
  cases ha : Ar.after c (t.drop j) with
  | none => rfl
  | some u =>
    obtain ⟨v, hv, _⟩ := Ar.after_some ha
    have := congrArg List.length hv
    rw [List.length_append, List.length_cons, List.length_drop] at this
    show (((j + ((t.drop j).length - u.length - 1) : Nat) : Int)) = ((t.length - u.length - 1 : Nat) : Int)
    rw [List.length_drop]
    omega
theorem at_some {c j : Nat} {t u : List Nat} (h : Ar.after c (t.drop j) = some u) (hj : j ≤ t.length) : u.length + 1 ≤ t.length ∧ t.drop (t.length - u.length) = u := by
  obtain ⟨v, hv, _⟩ := Ar.after_some h
  have e : t = (t.take j ++ v ++ [c]) ++ u := by
    rw [List.append_assoc, List.append_assoc]
    show t = t.take j ++ (v ++ c :: u)
    rw [← hv, List.take_append_drop]
  have el := congrArg List.length e
  rw [List.length_append, List.length_append, List.length_append] at el
  simp only [List.length_cons, List.length_nil] at el
  refine ⟨by omega, ?_⟩
  have : t.length - u.length = (t.take j ++ v ++ [c]).length := by
    rw [List.length_append, List.length_append]
    simp only [List.length_cons, List.length_nil]
    omega
  have key : ∀ p : List Nat, t = p ++ u → t.length - u.length = p.length → t.drop (t.length - u.length) = u := fun p h1 h2 => by rw [h2, h1, List.drop_left]
  exact key _ e this
end Fd
set_option Elab.async false
set_option linter.all false
set_option maxRecDepth 100000
set_option maxHeartbeats 4000000
/-! Fd2: text.rfind(letter) -/
namespace Fd
open PySem PySem.Spec PyProof.Rows L2 Evl Bx Builtin.Str
theorem rfind_last (t : List Nat) (c : Nat) : (c ∉ t ∧ Txt.rfind (mk t) (mk [c]) = -1) ∨ ∃ q s, t = q ++ c :: s ∧ c ∉ s ∧ Txt.rfind (mk t) (mk [c]) = ((q.length : Nat) : Int) := by
  have at_ : ∀ i, StrLaws.At (mk t) (mk [c]) (mk t).length i ↔ t[i]? = some c := fun i => by
    unfold StrLaws.At
    rw [sub_one, mk_len, mk_len, decide_eq_true_eq]
    constructor
    · exact fun h => h.2
    · intro h
      exact ⟨by have := (List.getElem?_eq_some_iff.mp h).1; show i + 1 ≤ _; omega, h⟩
  rcases StrLaws.last_spec (mk t) (mk [c]) with ⟨e, h⟩ | ⟨i, e, h, hk⟩
  · refine .inl ⟨fun z => ?_, ?_⟩
    · obtain ⟨i, hi⟩ := List.getElem?_of_mem z
      exact h i ((at_ i).mpr hi)
    · unfold Txt.rfind
      rw [e]
  · have hi := (at_ i).mp h
    obtain ⟨il, ei⟩ := List.getElem?_eq_some_iff.mp hi
    refine .inr ⟨t.take i, t.drop (i + 1), ?_, fun z => ?_, ?_⟩
    · rw [← ei, List.getElem_cons_drop, List.take_append_drop]
    · obtain ⟨j, hj⟩ := List.getElem?_of_mem z
      rw [List.getElem?_drop] at hj
      exact hk (i + 1 + j) (by omega) ((at_ _).mpr hj)
    · unfold Txt.rfind
      rw [e, List.length_take, Nat.min_eq_left (by omega)]
end Fd
set_option Elab.async false
set_option linter.all false
set_option maxRecDepth 100000
set_option maxHeartbeats 4000000
/-! Zl: list(zip(a, b)) as a value -/
namespace Zl
open PySem PySem.Spec PyProof.Rows
theorem no_len : typeLookup (.type "zip") "__len__" = pure none := am_miss_of_fast (by decide +kernel)
theorem no_hint : typeLookup (.type "zip") "__length_hint__" = pure none := am_miss_of_fast (by decide +kernel)
/-- a zip of the lists at a and b, k pairs given out, each of them kept by the list at S -/
structure Zip (h : Heap) (z TI TO i1 i2 a b S : Addr) (k : Nat) : Prop where
  z : IsZip h z TI TO .none ∨ ∃ T f oT, IsZipHeld h z TI TO T f ∧ h.get? T = some oT ∧ T ≠ z ∧ T ≠ i1 ∧ T ≠ i2 ∧ T ≠ TO ∧ T ≠ S
  ti : IsPair h TI (.ref i1) (.ref i2)
  to : ∃ x y, IsPair h TO x y
  a : h.IsListIter i1 a k
  b : h.IsListIter i2 b k
theorem Zip.keep {h h' : Heap} {z TI TO i1 i2 a b S : Addr} {k : Nat} (q : Zip h z TI TO i1 i2 a b S k) (kp : ∀ c o, c ≠ S → h.get? c = some o → h'.get? c = some o) (n1 : z ≠ S) (n2 : TI ≠ S) (n3 : TO ≠ S) (n4 : i1 ≠ S) (n5 : i2 ≠ S) : Zip h' z TI TO i1 i2 a b S k := by
  obtain ⟨q1, q2, ⟨x, y, q3⟩, ⟨o4, e4, r4⟩, ⟨o5, e5, r5⟩⟩ := q
  refine ⟨?_, kp _ _ n2 q2, ⟨x, y, kp _ _ n3 q3⟩, ⟨o4, kp _ _ n4 e4, r4⟩, ⟨o5, kp _ _ n5 e5, r5⟩⟩
  rcases q1 with q1 | ⟨T, f, oT, e1, e2, r1, r2, r3, r6, r7⟩
  · exact .inl (kp _ _ n1 q1)
  · exact .inr ⟨T, f, oT, kp _ _ n1 e1, kp _ _ r7 e2, r1, r2, r3, r6, r7⟩
/-- the pairs made so far -/
structure Made (xs ys : Array Value) (lo : Addr) (h : Heap) (as : List Addr) : Prop where
  rise : as.Pairwise (· < ·)
  above : ∀ t ∈ as, lo ≤ t
  pairs : ∀ (j : Nat) (t : Addr), as[j]? = some t → ∃ x y, xs[j]? = some x ∧ ys[j]? = some y ∧ IsPair h t x y
theorem Made.lt {xs ys : Array Value} {lo : Addr} {h : Heap} {as : List Addr} (g : Made xs ys lo h as) {t : Addr} (ht : t ∈ as) : t < h.objs.size := by
  obtain ⟨j, hj⟩ := List.getElem?_of_mem ht
  obtain ⟨_, _, _, _, e⟩ := g.pairs j t hj
  exact Heap.lt_size e
section
variable {prog : Program} {w : World} {A : Around} {X0 : Value → Shared → Prop} {s : Shared}
theorem next_one {z TI TO i1 i2 a b S : Addr} {k : Nat} {xs ys : Array Value} {x y : Value} {Q : Option Value → Shared → Prop} (D : ZipApart z TI TO i1 i2 a b) (q : Zip s.heap z TI TO i1 i2 a b S k) (atS : S < s.heap.objs.size)
    (la : s.heap.IsList a xs) (lb : s.heap.IsList b ys) (ex0 : xs[k]? = some x) (ey0 : ys[k]? = some y)
    (hQ : ∀ h', Zip h' z TI TO i1 i2 a b S (k + 1) → IsPair h' s.heap.objs.size x y → (∀ c o, c ≠ z → c ≠ TO → c ≠ i1 → c ≠ i2 → s.heap.get? c = some o → h'.get? c = some o) → Q (some (.ref s.heap.objs.size)) { s with heap := h' }) :
    wpAny (model prog w) A (pyNext (.ref z)) Q X0 s := by
  obtain ⟨q1, q2, ⟨u, v, q3⟩, q4, q5⟩ := q
  have ltI1 : i1 < s.heap.objs.size := let ⟨_, e, _⟩ := q4; Heap.lt_size e
  have ltI2 : i2 < s.heap.objs.size := let ⟨_, e, _⟩ := q5; Heap.lt_size e
  have ltTO : TO < s.heap.objs.size := Heap.lt_size q3
  rcases q1 with q1 | ⟨T, f, oT, e1, e2, r1, r2, r3, r6, r7⟩
  · have ltz : z < s.heap.objs.size := Heap.lt_size q1
    refine wpAny_pyNext_zip_item D q1 q2 q3 q4 q5 la lb ex0 ey0 fun h' a1 a2 a3 a4 a5 a6 a7 => hQ h' ⟨.inr ⟨_, false, _, a1, a5, Nat.ne_of_gt ltz, Nat.ne_of_gt ltI1, Nat.ne_of_gt ltI2, Nat.ne_of_gt ltTO, Nat.ne_of_gt atS⟩, a7 _ _ D.TIz D.TITO D.TIi1 D.TIi2 q2, ⟨_, _, a2⟩, a3, a4⟩ a5 a7
  · refine wpAny_pyNext_zip_item_held D e1 e2 q2 q4 q5 la lb ex0 ey0 fun h' a1 a3 a4 a5 a6 a7 => hQ h' ⟨.inr ⟨T, true, oT, a1, a7 _ _ r1 r2 r3 e2, r1, r2, r3, r6, r7⟩, a7 _ _ D.TIz D.TIi1 D.TIi2 q2, ⟨u, v, a7 _ _ D.TOz D.TOi1 D.TOi2 q3⟩, a3, a4⟩ a5 fun c o c1 _ c3 c4 e => a7 c o c1 c3 c4 e
theorem next_none {z TI TO i1 i2 a b S : Addr} {k : Nat} {xs ys : Array Value} {Q : Option Value → Shared → Prop} (hh : A.handled = none) (D : ZipApart z TI TO i1 i2 a b) (q : Zip s.heap z TI TO i1 i2 a b S k)
    (la : s.heap.IsList a xs) (lb : s.heap.IsList b ys) (he : xs[k]? = none ∨ ys[k]? = none)
    (hQ : ∀ h', (∀ c o, c ≠ z → c ≠ TO → c ≠ i1 → c ≠ i2 → s.heap.get? c = some o → h'.get? c = some o) → Q none { s with heap := h' }) : wpAny (model prog w) A (pyNext (.ref z)) Q X0 s := by
  obtain ⟨q1, q2, ⟨u, v, q3⟩, q4, q5⟩ := q
  rcases q1 with q1 | ⟨T, f, oT, e1, e2, r1, r2, r3, r6, r7⟩
  · exact wpAny_pyNext_zip_end hh D q1 q2 q3 q4 q5 la lb he hQ
  · exact wpAny_pyNext_zip_end_held hh D e1 e2 q2 q4 q5 la lb he fun h' k => hQ h' fun c o c1 _ c3 c4 e => k c o c1 c3 c4 e
end
section
variable {prog : Program} {w : World} {A : Around} {s : Shared} {R : Result → Shared → Prop}
theorem loop {S z TI TO i1 i2 a b lo : Addr} {n : Nat} {xs ys : Array Value} (hh : A.handled = none) (D : ZipApart z TI TO i1 i2 a b) (n1 : z ≠ S) (n2 : TI ≠ S) (n3 : TO ≠ S) (n4 : i1 ≠ S) (n5 : i2 ≠ S) (n6 : a ≠ S) (n7 : b ≠ S) (ex0 : xs.size = n) (ey0 : ys.size = n) (hn : n ≤ sizeLine) (fin0 : Value) {g0 : Heap}
    (hlo : ∀ c, c = S ∨ c = z ∨ c = TO ∨ c = i1 ∨ c = i2 → c < lo)
    (hR : ∀ h' tok row c as, (∀ b o, b ≠ S → b ≠ z → b ≠ TO → b ≠ i1 → b ≠ i2 → g0.get? b = some o → h'.get? b = some o) → h'.get? S = some { cls := .type "list", dict := none, data := .seq row c, slots := #[] } → as.length = n → Made xs ys lo h' as →
      row.toList = as.map Value.ref → R (.ok (.ret fin0)) { s with heap := h', toks := tok }) :
    ∀ (m k : Nat) (h : Heap) (tok c : Nat) (row : Array Value) (as : List Addr), n - k = m → k ≤ n → Zip h z TI TO i1 i2 a b S k → h.IsList a xs → h.IsList b ys → (∀ b o, b ≠ S → b ≠ z → b ≠ TO → b ≠ i1 → b ≠ i2 → g0.get? b = some o → h.get? b = some o) →
      h.get? S = some { cls := .type "list", dict := none, data := .seq row c, slots := #[] } → row.toList = as.map Value.ref → as.length = k → Made xs ys lo h as → lo ≤ h.objs.size →
      codeAny (model prog w) A (.builtin "list.extend.loop" ⟨[.ref S, .ref z, fin0], []⟩) R { s with heap := h, toks := tok } := by
  intro m
  induction m with
  | zero =>
    intro k h tok c row as hm hk q la lb kp atS hacc hal G hl
    have kn : k = n := by omega
    refine codeAny_builtin PySem.F.entry_extend_loop ?_
    rw [Around.under_plainId PySem.F.plain_extend_loop _]
    show wpAny _ A.in1 (pyNext (.ref z) >>= _) _ _ _
    refine wpAny_bind (next_none (s := { s with heap := h, toks := tok }) (A := A.in1) hh D q la lb (.inl (Array.getElem?_eq_none (by omega))) fun h' he => ?_)
    refine wpAny_pure (hR h' tok row c as (fun b o b1 b2 b3 b4 b5 e => he b o b2 b3 b4 b5 (kp b o b1 b2 b3 b4 b5 e)) (he S _ n1.symm n3.symm n4.symm n5.symm atS) (by omega) ⟨G.rise, G.above, fun j t hj => ?_⟩ hacc)
    obtain ⟨x, y, e1, e2, e3⟩ := G.pairs j t hj
    have ab := G.above t (List.mem_of_getElem? hj)
    have ne : ∀ c, c = S ∨ c = z ∨ c = TO ∨ c = i1 ∨ c = i2 → t ≠ c := fun c hc => Nat.ne_of_gt (Nat.lt_of_lt_of_le (hlo c hc) ab)
    exact ⟨x, y, e1, e2, he t _ (ne _ (by simp)) (ne _ (by simp)) (ne _ (by simp)) (ne _ (by simp)) e3⟩
  | succ m ih =>
    intro k h tok c row as hm hk q la lb kp atS hacc hal G hl
    have hlt : k < n := by omega
    have sz : row.size = k := by rw [← Array.length_toList, hacc, List.length_map, hal]
    have ex : xs[k]? = some xs[k] := Array.getElem?_eq_getElem (by omega)
    have ey : ys[k]? = some ys[k] := Array.getElem?_eq_getElem (by omega)
    refine codeAny_builtin PySem.F.entry_extend_loop ?_
    rw [Around.under_plainId PySem.F.plain_extend_loop _]
    show wpAny _ A.in1 (pyNext (.ref z) >>= _) _ _ _
    have ltS : S < h.objs.size := Heap.lt_size atS
    refine wpAny_bind (next_one (s := { s with heap := h, toks := tok }) D q ltS la lb ex ey fun h' q' hp kq => ?_)
    dsimp only at hp kq ⊢
    have atS' := kq S _ n1.symm n3.symm n4.symm n5.symm atS
    have up : ∀ b o, b ≠ S → h'.get? b = some o → (h'.update S (Obj.mapSeq (·.push (Value.ref h.objs.size)))).get? b = some o := fun b o lb e => (Heap.get?_update_other _ _ (Ne.symm lb)).trans e
    have lst : ∀ {l : Addr} {vs : Array Value}, l ≠ z → l ≠ TO → l ≠ i1 → l ≠ i2 → l ≠ S → h.IsList l vs → (h'.update S (Obj.mapSeq (·.push (Value.ref h.objs.size)))).IsList l vs := fun b1 b2 b3 b4 b5 ⟨o, ho, r⟩ => ⟨o, up _ _ b5 (kq _ _ b1 b2 b3 b4 ho), r⟩
    show wpAny _ A.in1 (updateSeq S (·.push (Value.ref h.objs.size)) >>= _) _ _ _
    refine wpAny_bind ?_
    refine wpAny_updateSeq atS' rfl (wpAny_pure ⟨plainId_quiet PySem.F.plain_extend_loop _, ih (k + 1) _ tok _ (row.push (Value.ref h.objs.size)) (as ++ [h.objs.size]) (by omega) hlt (q'.keep up n1 n2 n3 n4 n5) (lst D.l1z D.l1TO D.l1i1 D.l1i2 n6 la) (lst D.l2z D.l2TO D.l2i1 D.l2i2 n7 lb)
      (fun b o b1 b2 b3 b4 b5 e => up b o b1 (kq b o b2 b3 b4 b5 (kp b o b1 b2 b3 b4 b5 e))) (Heap.get?_update_self _ atS' rfl) (by rw [Array.toList_push, hacc, List.map_append]; rfl) (by rw [List.length_append, hal]; rfl) ⟨?_, ?_, ?_⟩ ?_⟩) (by rw [sz]; omega) (by show (row.push (Value.ref h.objs.size)).size ≤ sizeLine + 1; rw [Array.size_push, sz]; omega)
    · refine List.pairwise_append.mpr ⟨G.rise, List.pairwise_singleton _ _, fun t ht u hu => ?_⟩
      rw [List.mem_singleton.mp hu]
      exact G.lt ht
    · intro t ht
      rcases List.mem_append.mp ht with ht | ht
      · exact G.above t ht
      · rw [List.mem_singleton.mp ht]; exact hl
    · intro j t hj
      rcases Nat.lt_trichotomy j as.length with c1 | c1 | c1
      · rw [List.getElem?_append_left c1] at hj
        obtain ⟨x, y, e1, e2, e3⟩ := G.pairs j t hj
        have ab := G.above t (List.mem_of_getElem? hj)
        have ne : ∀ c, c = S ∨ c = z ∨ c = TO ∨ c = i1 ∨ c = i2 → t ≠ c := fun c hc => Nat.ne_of_gt (Nat.lt_of_lt_of_le (hlo c hc) ab)
        exact ⟨x, y, e1, e2, up t _ (ne _ (by simp)) (kq t _ (ne _ (by simp)) (ne _ (by simp)) (ne _ (by simp)) (ne _ (by simp)) e3)⟩
      · subst c1
        have ht : h.objs.size = t := by simpa using hj
        subst ht
        exact ⟨_, _, by rw [hal]; exact ex, by rw [hal]; exact ey, up _ _ (Nat.ne_of_gt ltS) hp⟩
      · rw [List.getElem?_eq_none (by rw [List.length_append, List.length_singleton]; omega)] at hj
        cases hj
    · have e : (h'.update S (Obj.mapSeq (·.push (Value.ref h.objs.size)))).get? h.objs.size = _ := up _ _ (Nat.ne_of_gt ltS) hp
      exact Nat.le_trans hl (Nat.le_of_lt (Heap.lt_size e))
end
section
variable {prog : Program} {w : World} {A : Around} {X0 : Value → Shared → Prop} {s : Shared}
theorem zip_type {h : Heap} {z TI TO i1 i2 a b S : Addr} {k : Nat} (q : Zip h z TI TO i1 i2 a b S k) : ∃ o, h.get? z = some o ∧ o.cls = .type "zip" := by
  rcases q.z with q1 | ⟨T, f, oT, e1, _⟩
  · exact ⟨_, q1, rfl⟩
  · exact ⟨_, e1, rfl⟩
theorem extend {R : Result → Shared → Prop} {S z TI TO i1 i2 a b lo : Addr} {n : Nat} {xs ys : Array Value} (hh : A.handled = none) (D : ZipApart z TI TO i1 i2 a b) (n1 : z ≠ S) (n2 : TI ≠ S) (n3 : TO ≠ S) (n4 : i1 ≠ S) (n5 : i2 ≠ S) (n6 : a ≠ S) (n7 : b ≠ S) (ex0 : xs.size = n) (ey0 : ys.size = n) (hn : n ≤ sizeLine) (fin0 : Value) (m0 : Nat)
    (hlo : ∀ c, c = S ∨ c = z ∨ c = TO ∨ c = i1 ∨ c = i2 → c < lo) (hl : lo ≤ s.heap.objs.size)
    (qz : IsZip s.heap z TI TO .none) (q2 : IsPair s.heap TI (.ref i1) (.ref i2)) (q3 : ∃ x y, IsPair s.heap TO x y) (q4 : s.heap.IsListIter i1 a 0) (q5 : s.heap.IsListIter i2 b 0) (la : s.heap.IsList a xs) (lb : s.heap.IsList b ys)
    (atS : s.heap.get? S = some { cls := .type "list", data := .seq #[] m0 })
    (hR : ∀ h' tok row c as, (∀ b o, b ≠ S → b ≠ z → b ≠ TO → b ≠ i1 → b ≠ i2 → s.heap.get? b = some o → h'.get? b = some o) → h'.get? S = some { cls := .type "list", dict := none, data := .seq row c, slots := #[] } → as.length = n → Made xs ys lo h' as →
      row.toList = as.map Value.ref → R (.ok (.ret fin0)) { s with heap := h', toks := tok }) :
    wpAny (model prog w) A.in1 (Builtin.List.listExtendWith (.ref S) (.ref z) fin0)
      (fun ou s' => match ou with | .done f => R (.ok f) s' | .again c' => c'.quiet = true ∧ codeAny (model prog w) A c' R s') (fun e s' => R (.error e) s') s := by
  have key : ∀ (h : Heap) (m1 tok : Nat), (∀ b o, b ≠ S → s.heap.get? b = some o → h.get? b = some o) → lo ≤ h.objs.size →
      h.get? S = some { cls := .type "list", data := .seq #[] m1 } → codeAny (model prog w) A (.builtin "list.extend.loop" ⟨[.ref S, .ref z, fin0], []⟩) R { s with heap := h, toks := tok } := by
    intro h m1 tok hk hl2 atS1
    have q0 : Zip s.heap z TI TO i1 i2 a b S 0 := ⟨.inl qz, q2, q3, q4, q5⟩
    refine loop (s := s) (g0 := s.heap) hh D n1 n2 n3 n4 n5 n6 n7 ex0 ey0 hn fin0 hlo hR n 0 h tok m1 #[] [] (Nat.sub_zero _) (Nat.zero_le _) (q0.keep hk n1 n2 n3 n4 n5) (let ⟨o, ho, r⟩ := la; ⟨o, hk _ _ n6 ho, r⟩) (let ⟨o, ho, r⟩ := lb; ⟨o, hk _ _ n7 ho, r⟩)
      (fun b o b1 _ _ _ _ e => hk b o b1 e) atS1 rfl rfl ⟨List.Pairwise.nil, (fun _ h => nomatch h), (fun j t hj => by simp at hj)⟩ hl2
  have ty : s.TypeIs (.ref z) "zip" := ⟨_, qz, rfl⟩
  unfold Builtin.List.listExtendWith
  refine wpAny_bind (wpAny_typeOf (T := "zip") ty ?_)
  have h1 : Builtin.List.listSameRef (.ref S) (.ref z) = false := by simp [Builtin.List.listSameRef, n1.symm]
  have h2 : (Value.type "zip" == Value.type "list") = false := by decide
  have h3 : (Value.type "zip" == Value.type "tuple") = false := by decide
  simp only [h1, h2, h3, Bool.or_false, Bool.false_eq_true, if_false]
  refine wpAny_bind (wpAny_pyIter_zip qz ?_)
  refine wpAny_bind (wpAny_holding ?_)
  unfold Builtin.List.listLengthHint
  refine wpAny_bind (wpAny_specialOf ty no_len ?_)
  show wpAny _ A.in1 (specialOf (Value.ref z) (Str.ofString "__length_hint__") >>= _) _ _ _
  refine wpAny_bind (wpAny_specialOf ty no_hint ?_)
  refine wpAny_pure ?_
  show wpAny _ A.in1 (rule "list.extend.makes-room" >>= fun _ => Builtin.List.listTouch (.ref S) >>= fun _ => again (.builtin "list.extend.loop" ⟨[.ref S, .ref z, fin0], []⟩)) _ _ _
  refine wpAny_bind (wpAny_rule ?_)
  refine wpAny_bind ?_
  show wpAny _ A.in1 (updateSeq S (·.push .none) >>= fun _ => updateSeq S (·.pop)) _ _ _
  refine wpAny_bind (wpAny_updateSeq atS rfl ?_)
  have atS2 := Heap.get?_update_self (Obj.mapSeq (·.push Value.none)) atS rfl
  refine wpAny_updateSeq (hz := by seq_fits) atS2 rfl ?_
  have atS3 := Heap.get?_update_self (Obj.mapSeq (·.pop)) atS2 rfl
  refine wpAny_pure ⟨plainId_quiet PySem.F.plain_extend_loop _, key _ _ _ (fun b o lb e => ?_) ?_ atS3⟩
  · exact (Heap.get?_update_other _ _ (Ne.symm lb)).trans ((Heap.get?_update_other _ _ (Ne.symm lb)).trans e)
  · show lo ≤ (((s.heap.update S _).update S _).objs.size : Nat)
    rw [Heap.size_update, Heap.size_update]
    exact hl
theorem call_list {Q : Value → Shared → Prop} {z TI TO i1 i2 a b : Addr} {n : Nat} {xs ys : Array Value} (hh : A.handled = none) (D : ZipApart z TI TO i1 i2 a b) (ex0 : xs.size = n) (ey0 : ys.size = n) (hn : n ≤ sizeLine)
    (qz : IsZip s.heap z TI TO .none) (q2 : IsPair s.heap TI (.ref i1) (.ref i2)) (q3 : ∃ x y, IsPair s.heap TO x y) (q4 : s.heap.IsListIter i1 a 0) (q5 : s.heap.IsListIter i2 b 0) (la : s.heap.IsList a xs) (lb : s.heap.IsList b ys)
    (hQ : ∀ h' tok row c as, (∀ b o, b ≠ z → b ≠ TO → b ≠ i1 → b ≠ i2 → s.heap.get? b = some o → h'.get? b = some o) → h'.get? s.heap.objs.size = some { cls := .type "list", dict := none, data := .seq row c, slots := #[] } → as.length = n → Made xs ys (s.heap.objs.size + 1) h' as →
      row.toList = as.map Value.ref → Q (.ref s.heap.objs.size) { s with heap := h', toks := tok }) :
    wpAny (model prog w) A (call (.type "list") [.ref z]) Q X0 s := by
  refine callType_codes (Q₁ := fun ob sn => ob = .ref s.heap.objs.size ∧ sn = { s with heap := s.heap.push { cls := .type "list", data := .seq #[] } }) PySem.F.called_list (PySem.F.typeCall_list_1 _) PySem.F.entry_list_init
    (code_list_new _ ⟨rfl, rfl⟩) fun ob sn g0 => ?_
  obtain ⟨rfl, rfl⟩ := g0
  have atS : (s.heap.push { cls := .type "list", data := .seq #[] }).get? s.heap.objs.size = some { cls := .type "list", data := .seq #[] } := Heap.get?_push_size _ rfl
  have l1 : z < s.heap.objs.size := Heap.lt_size qz
  have l2 : TI < s.heap.objs.size := Heap.lt_size q2
  have l3 : TO < s.heap.objs.size := let ⟨_, _, e⟩ := q3; Heap.lt_size e
  have l4 : i1 < s.heap.objs.size := let ⟨_, e, _⟩ := q4; Heap.lt_size e
  have l5 : i2 < s.heap.objs.size := let ⟨_, e, _⟩ := q5; Heap.lt_size e
  have l6 : a < s.heap.objs.size := let ⟨_, e, _⟩ := la; Heap.lt_size e
  have l7 : b < s.heap.objs.size := let ⟨_, e, _⟩ := lb; Heap.lt_size e
  refine ⟨⟨_, atS, rfl⟩, PySem.F.args_list_init_2 _ _, ?_⟩
  show wpAny _ A.in1.in1 (do let old ← Builtin.List.listItems (.ref s.heap.objs.size); Builtin.List.listUpdate (.ref s.heap.objs.size) (fun _ => #[]); letGo old.toList.reverse; Builtin.List.listExtendWith (.ref s.heap.objs.size) (.ref z) .none) _ _ _
  refine wpAny_bind ?_
  unfold Builtin.List.listItems
  refine wpAny_bind (wpAny_seqItems atS rfl (wpAny_pure ?_))
  show wpAny _ _ (updateSeq s.heap.objs.size (fun _ => #[]) >>= fun _ => letGo (#[] : Array Value).toList.reverse >>= fun _ => Builtin.List.listExtendWith (.ref s.heap.objs.size) (.ref z) .none) _ _ _
  refine wpAny_bind (wpAny_updateSeq atS rfl ?_)
  have atS2 := Heap.get?_update_self (Obj.mapSeq (fun _ => (#[] : Array Value))) atS rfl
  have oth : ∀ b o, s.heap.get? b = some o → ((s.heap.push { cls := .type "list", data := .seq #[] }).update s.heap.objs.size (Obj.mapSeq (fun _ => (#[] : Array Value)))).get? b = some o :=
    fun b o e => (Heap.get?_update_other _ _ (Ne.symm (Nat.ne_of_lt (Heap.lt_size e)))).trans (Heap.get?_push_of_some _ e)
  have big : ((s.heap.push { cls := .type "list", data := .seq #[] }).update s.heap.objs.size (Obj.mapSeq (fun _ => (#[] : Array Value)))).objs.size = s.heap.objs.size + 1 := by rw [Heap.size_update, Heap.size_push]
  refine wpAny_bind (wpAny_letGo ?_)
  refine extend (A := A.in1) (lo := s.heap.objs.size + 1) hh D (Nat.ne_of_lt l1) (Nat.ne_of_lt l2) (Nat.ne_of_lt l3) (Nat.ne_of_lt l4) (Nat.ne_of_lt l5) (Nat.ne_of_lt l6) (Nat.ne_of_lt l7) ex0 ey0 hn .none _ (fun c hc => ?_) (Nat.le_of_eq big.symm)
    (oth _ _ qz) (oth _ _ q2) (let ⟨x, y, e⟩ := q3; ⟨x, y, oth _ _ e⟩) (let ⟨o, e, r⟩ := q4; ⟨o, oth _ _ e, r⟩) (let ⟨o, e, r⟩ := q5; ⟨o, oth _ _ e, r⟩) (let ⟨o, e, r⟩ := la; ⟨o, oth _ _ e, r⟩) (let ⟨o, e, r⟩ := lb; ⟨o, oth _ _ e, r⟩) atS2
    (fun h' tok row c as hk atS' hl hG hacc => ⟨rfl, hQ h' tok row c as (fun b o b2 b3 b4 b5 e => hk b o (Nat.ne_of_lt (Heap.lt_size e)) b2 b3 b4 b5 (oth b o e)) atS' hl hG hacc⟩)
  rcases hc with e | e | e | e | e <;> rw [e]
  · exact Nat.lt_succ_self _
  · exact Nat.lt_succ_of_lt l1
  · exact Nat.lt_succ_of_lt l3
  · exact Nat.lt_succ_of_lt l4
  · exact Nat.lt_succ_of_lt l5
end
end Zl
set_option Elab.async false
set_option linter.all false
set_option maxRecDepth 100000
set_option maxHeartbeats 4000000
/-! Zl2: the rule for list(zip(a, b)) -/
namespace Zl
open PySem PySem.Spec PyProof.Rows L2
def putP : Hp → List Addr → List (V × V) → Hp
  | G, t :: ts, c :: cs => putP (upd G t (.tup [c.1, c.2])) ts cs
  | G, _, _ => G
theorem putP_off {b : Addr} : ∀ (ts : List Addr) (cs : List (V × V)) (G : Hp), b ∉ ts → putP G ts cs b = G b
  | [], _, _, _ => rfl
  | _ :: _, [], _, _ => rfl
  | t :: ts, c :: cs, G, h => by
    have h1 : b ≠ t := fun z => h (z ▸ List.mem_cons_self)
    have h2 : b ∉ ts := fun z => h (List.mem_cons_of_mem _ z)
    show putP (upd G t (.tup [c.1, c.2])) ts cs b = G b
    rw [putP_off ts cs _ h2, upd_ne h1]
theorem putP_at : ∀ (ts : List Addr) (cs : List (V × V)) (G : Hp), ts.length = cs.length → ts.Nodup → ∀ (j : Nat) (t : Addr), ts[j]? = some t → ∃ c : V × V, cs[j]? = some c ∧ putP G ts cs t = some (.tup [c.1, c.2])
  | [], _, _, _, _, j, t, h => by cases h
  | _ :: _, [], _, h, _, _, _, _ => by cases h
  | t :: ts, c :: cs, G, h, nd, 0, u, e => by
    cases e
    refine ⟨c, rfl, ?_⟩
    show putP (upd G t (.tup [c.1, c.2])) ts cs t = _
    rw [putP_off ts cs _ (List.nodup_cons.mp nd).1, upd_same]
  | t :: ts, c :: cs, G, h, nd, j + 1, u, e => putP_at ts cs (upd G t (.tup [c.1, c.2])) (Nat.succ.inj h) (List.nodup_cons.mp nd).2 j u e
theorem vals_at {vs : List V} {us : List Value} (r : Vals vs us) : ∀ {j : Nat} {u : Value}, us[j]? = some u → ∃ v, vs[j]? = some v ∧ RelV v u := by
  induction r with
  | nil => intro j u e; cases e
  | cons h t ih =>
    intro j u e
    cases j with
    | zero => cases e; exact ⟨_, rfl, h⟩
    | succ j => exact ih e
section
variable {X : Cx} {pins : List (Addr × Obj)} {σ : L2.St} {H : Hp} {s : Shared}
theorem laid {h' : Heap} {tk c n : Nat} {S lo : Addr} {xs ys : List V} {vx vy : List Value} {acc : Array Value} {as : List Addr} (I : Inv X pins σ H s) (rx : Vals xs vx) (ry : Vals ys vy) (lx : xs.length = n) (ly : ys.length = n) (hn : n ≤ sizeLine)
    (hk : ∀ b o, s.heap.get? b = some o → h'.get? b = some o) (big : s.heap.objs.size ≤ S) (hlo : S < lo) (hS : h'.get? S = some { cls := .type "list", dict := none, data := .seq acc c, slots := #[] }) (hl : as.length = n) (G : Made vx.toArray vy.toArray lo h' as) (hacc : acc.toList = as.map Value.ref) :
    ∃ H' : Hp, (∀ b o, H b = some o → H' b = some o) ∧ H S = none ∧ (∀ t ∈ as, H t = none) ∧ S ∉ as ∧ H' S = some (.lst (as.map V.ref)) ∧ (∀ (j : Nat) (t : Addr), as[j]? = some t → ∃ x y, xs[j]? = some x ∧ ys[j]? = some y ∧ H' t = some (.tup [x, y])) ∧ Inv X pins σ H' { s with heap := h', toks := tk } := by
  have nS : S ∉ as := fun z => absurd (G.above _ z) (Nat.not_le.mpr hlo)
  have nd : as.Nodup := List.Pairwise.imp (fun {a b} (h : a < b) => Nat.ne_of_lt h) G.rise
  have old : ∀ t ∈ as, s.heap.objs.size ≤ t := fun t ht => Nat.le_trans big (Nat.le_trans (Nat.le_of_lt hlo) (G.above t ht))
  have new : ∀ t ∈ as, H t = none := fun t ht => I.hok.fresh (old t ht)
  have newS : H S = none := I.hok.fresh big
  have zl : (xs.zip ys).length = n := by rw [List.length_zip, lx, ly, Nat.min_self]
  have atP := putP_at as (xs.zip ys) (upd H S (.lst (as.map V.ref))) (by rw [hl, zl]) nd
  have off : ∀ b, b ∉ as → b ≠ S → putP (upd H S (.lst (as.map V.ref))) as (xs.zip ys) b = H b := fun b h1 h2 => by rw [putP_off as _ _ h1, upd_ne h2]
  have low : ∀ b o, s.heap.get? b = some o → b ∉ as ∧ b ≠ S := fun b o e => ⟨fun z => absurd (old b z) (Nat.not_le.mpr (Heap.lt_size e)), Nat.ne_of_lt (Nat.lt_of_lt_of_le (Heap.lt_size e) big)⟩
  have kp : ∀ b u, H b = some u → (putP (upd H S (.lst (as.map V.ref))) as (xs.zip ys)) b = some u := fun b u e => by
    rw [off b (fun z => by rw [new b z] at e; cases e) (fun z => by rw [z, newS] at e; cases e)]
    exact e
  have eS : putP (upd H S (.lst (as.map V.ref))) as (xs.zip ys) S = some (.lst (as.map V.ref)) := by rw [putP_off as _ _ nS, upd_same]
  have pr : ∀ (j : Nat) (t : Addr), as[j]? = some t → ∃ x y, xs[j]? = some x ∧ ys[j]? = some y ∧ putP (upd H S (.lst (as.map V.ref))) as (xs.zip ys) t = some (.tup [x, y]) := fun j t hj => by
    obtain ⟨⟨x, y⟩, hc, ht⟩ := atP j t hj
    rw [List.getElem?_zip_eq_some] at hc
    exact ⟨x, y, hc.1, hc.2, ht⟩
  refine ⟨putP (upd H S (.lst (as.map V.ref))) as (xs.zip ys), kp, newS, new, nS, eS, pr, ?_⟩
  refine I.call' (ch := []) rfl ⟨fun b o q _ _ _ => hk b o q, fun b o q _ _ _ => ⟨o.slots, hk b o q⟩, fun b o q n' _ => ?_, fun b o q _ => ⟨o, hk b o q⟩, fun b zs q => kp b _ q, fun b o u q => kp b _ q, fun b ps q => ⟨#[], by rw [kp b _ q]; simp⟩⟩ (fun b u q => ?_) I.bare fun b z => by simp at z
  · obtain ⟨z1, z2⟩ := low b o q
    rw [off b z1 z2]
    exact n'
  · by_cases hb : b ∈ as
    · obtain ⟨j, hj⟩ := List.getElem?_of_mem hb
      obtain ⟨x, y, ex, ey, et⟩ := pr j b hj
      rw [et] at q
      cases q
      obtain ⟨u, v, f1, f2, f3⟩ := G.pairs j b hj
      obtain ⟨x', g1, g2⟩ := vals_at rx (by simpa using f1)
      obtain ⟨y', g3, g4⟩ := vals_at ry (by simpa using f2)
      rw [ex] at g1
      cases g1
      rw [ey] at g3
      cases g3
      exact ⟨by show 2 ≤ sizeLine; decide, [u, v], .cons g2 (.cons g4 .nil), ⟨_, f3, rfl, _, rfl⟩⟩
    · by_cases hb2 : b = S
      · rw [hb2] at q ⊢
        rw [eS] at q
        cases q
        refine ⟨by rw [List.length_map]; omega, acc.toList, c, by rw [hacc]; exact LiI.vals_refs as, ?_⟩
        rw [Array.toArray_toList]
        exact hS
      · rw [off b hb hb2] at q
        exact (I.hok b u q).stay (fun d v _ y => hk d v y) (fun d y => kp d _ y) fun d zs y => kp d _ y
def tListZip (K : PySem.W.Frag) (ta : TA) : TE := fun σ H Q => ta σ H fun vs H1 => ∃ (a b : Addr) (xs ys : List V), vs = [.ref a, .ref b] ∧ SqL K H1 a xs ∧ SqL K H1 b ys ∧ xs.length = ys.length ∧
  ∀ (H' : Hp) (p : Addr) (ts : List Addr), (∀ c o, H1 c = some o → H' c = some o) → H1 p = none → H' p = some (.lst (ts.map V.ref)) → ts.length = xs.length → (∀ (j : Nat) (t : Addr), ts[j]? = some t → ∃ x y, xs[j]? = some x ∧ ys[j]? = some y ∧ H' t = some (.tup [x, y])) → Q (.ref p) H'
theorem pe_listZip {e e2 : Expr} {ta : TA} {p pz pos posz : Pos} (hc : X.calm = true) (hg : Gl X "list") (hm : X.mg "list" = none) (hv : bootBuiltins "list" = some (.type "list")) (hgz : Gl X "zip") (hmz : X.mg "zip" = none) (ha : PA X [e, e2] ta)
    (hs : starEach [.Call (.Name "zip" pz) [e, e2] [] posz] X.env = (false, eval (.Call (.Name "zip" pz) [e, e2] [] posz) X.env) :: starEach [] X.env := by rfl)
    (hs2 : starEach [e, e2] X.env = (false, eval e X.env) :: starEach [e2] X.env := by rfl) (hpl : (backTo posz (starEach [e2] X.env)).any (·.1) = false := by rfl) :
    PE X (.Call (.Name "list" p) [.Call (.Name "zip" pz) [e, e2] [] posz] [] pos) (tListZip X.K ta) := by
  refine ⟨fun pins s σ H Q I hq => ?_⟩
  refine wpAny_Call_Name_kw (ld_blt I hg hm hv ?_)
  refine PyProof.Rows.callWith_type1 ?_ hs rfl
  rw [hs]
  show wpAny _ _ (spliced ((false, eval (.Call (.Name "zip" pz) [e, e2] [] posz) X.env) :: backTo pos (starEach [] X.env))) _ _ s
  refine Calls.spliced_cons ?_
  refine Call_ (ld_blt I hgz hmz PyProof.Rows.boot_zip (PyProof.Rows.callWith_type1 (thn (ha.run posz pins s σ H _ I hq) fun us s1 ⟨vs, H1, I1, r1, q1⟩ => ?_) hs2 hpl))
  obtain ⟨a, b, xs, ys, rfl, hx, hy, hl, q⟩ := q1
  cases r1 with
  | cons r rr =>
    cases rr with
    | cons r' rr =>
      cases rr
      cases r
      cases r'
      obtain ⟨its, rv, p1, l1⟩ := I1.list hx
      obtain ⟨its2, rv2, p2, l2⟩ := I1.list hy
      have z1 : its.length = xs.length := (Paired.length rv).symm
      have z2 : its2.length = xs.length := by rw [hl]; exact (Paired.length rv2).symm
      refine call_zip_2 p1.isList p2.isList fun h' hz hTI hTO h1 h2 hsz hk => ?_
      refine Calls.spliced_nil ?_
      refine call_list (n := xs.length) (I1.ok.hd hc) (PySem.W.ktu_apart s1.heap.objs.size a b p1.lt p2.lt) (by rw [List.size_toArray, z1]) (by rw [List.size_toArray, z2]) l1 hz hTI ⟨_, _, hTO⟩ h1 h2 (let ⟨o, ho, r⟩ := p1.isList; ⟨o, hk _ _ ho, r⟩) (let ⟨o, ho, r⟩ := p2.isList; ⟨o, hk _ _ ho, r⟩) fun h'' tk acc c as k2 hS hal G hacc => ?_
      have keep : ∀ c o, s1.heap.get? c = some o → h''.get? c = some o := fun c o e => by
        have lt := Heap.lt_size e
        have ne : ∀ k, c ≠ s1.heap.objs.size + k := fun k => Nat.ne_of_lt (Nat.lt_of_lt_of_le lt (Nat.le_add_right _ _))
        exact k2 c o (ne 4) (ne 3) (ne 0) (ne 1) (hk c o e)
      obtain ⟨H', g1, g2, g3, g4, g5, g6, J⟩ := laid (S := h'.objs.size) (lo := h'.objs.size + 1) (tk := tk) I1 rv rv2 rfl hl.symm l1 keep (Nat.le_trans (Nat.le_add_right _ _) (Nat.le_of_eq hsz.symm)) (Nat.lt_succ_self _) hS hal G hacc
      exact ⟨.ref _, H', J, rfl, q H' _ as g1 g2 g5 hal g6⟩
end
end Zl
set_option Elab.async false
set_option linter.all false
set_option maxRecDepth 100000
set_option maxHeartbeats 4000000
namespace K78
open PySem PySem.Spec PyProof.Rows L2 Evl Bx
def topS (i : Nat) : Stmt := PySem.Challenge.pw_skipcounts_k78_ranks_of_places.main.body.getD i (.Pass ⟨0, 0, 0, 0⟩)
abbrev s__law_row : Stmt := topS 33
abbrev N__law_row : List Str := ["_law_text_here", "_law_row_here", "_law_at", "_law_last"]
theorem sc__law_row : FnScope N__law_row ["_law_text_here"] (defScope s__law_row) := ⟨rfl, rfl, rfl, by decide +kernel, rfl, by decide +kernel, by decide +kernel⟩
abbrev s__law_long_ranks : Stmt := topS 34
abbrev N__law_long_ranks : List Str := ["_law_text_here", "_law_back", "_law_at", "_law_rank"]
theorem sc__law_long_ranks : FnScope N__law_long_ranks ["_law_text_here"] (defScope s__law_long_ranks) := ⟨rfl, rfl, rfl, by decide +kernel, rfl, by decide +kernel, by decide +kernel⟩
abbrev s__law_cell : Stmt := topS 21
abbrev N__law_cell : List Str := ["_law_script", "_law_index"]
theorem sc__law_cell : FnScope N__law_cell ["_law_script", "_law_index"] (defScope s__law_cell) := ⟨rfl, rfl, rfl, by decide +kernel, rfl, by decide +kernel, by decide +kernel⟩
abbrev s__law_generator : Stmt := topS 22
abbrev N__law_generator : List Str := ["_law_script", "_law_index", "_law_seed"]
theorem sc__law_generator : FnScope N__law_generator ["_law_script", "_law_index"] (defScope s__law_generator) := ⟨rfl, rfl, rfl, by decide +kernel, rfl, by decide +kernel, by decide +kernel⟩
abbrev s__law_same : Stmt := topS 30
abbrev N__law_same : List Str := ["_law_told", "_law_due"]
theorem sc__law_same : FnScope N__law_same ["_law_told", "_law_due"] (defScope s__law_same) := ⟨rfl, rfl, rfl, by decide +kernel, rfl, by decide +kernel, by decide +kernel⟩
abbrev s_is_text : Stmt := topS 8
abbrev N_is_text : List Str := ["value"]
theorem sc_is_text : FnScope N_is_text ["value"] (defScope s_is_text) := ⟨rfl, rfl, rfl, by decide +kernel, rfl, by decide +kernel, by decide +kernel⟩
abbrev s_need_text : Stmt := topS 9
abbrev N_need_text : List Str := ["text"]
theorem sc_need_text : FnScope N_need_text ["text"] (defScope s_need_text) := ⟨rfl, rfl, rfl, by decide +kernel, rfl, by decide +kernel, by decide +kernel⟩
abbrev s__front_ranks : Stmt := topS 16
abbrev N__front_ranks : List Str := ["text", "found", "last", "place", "sign"]
theorem sc__front_ranks : FnScope N__front_ranks ["text"] (defScope s__front_ranks) := ⟨rfl, rfl, rfl, by decide +kernel, rfl, by decide +kernel, by decide +kernel⟩
abbrev s__ranks : Stmt := topS 15
abbrev N__ranks : List Str := ["text"]
theorem sc__ranks : FnScope N__ranks ["text"] (defScope s__ranks) := ⟨rfl, rfl, rfl, by decide +kernel, rfl, by decide +kernel, by decide +kernel⟩
abbrev s_ranks : Stmt := topS 13
abbrev N_ranks : List Str := ["text"]
theorem sc_ranks : FnScope N_ranks ["text"] (defScope s_ranks) := ⟨rfl, rfl, rfl, by decide +kernel, rfl, by decide +kernel, by decide +kernel⟩
abbrev s__law_hash : Stmt := topS 19
abbrev N__law_hash : List Str := ["_law_seed", "_law_index", "_law_mixed"]
theorem sc__law_hash : FnScope N__law_hash ["_law_seed", "_law_index"] (defScope s__law_hash) := ⟨rfl, rfl, rfl, by decide +kernel, rfl, by decide +kernel, by decide +kernel⟩
abbrev s__law_random : Stmt := topS 20
abbrev N__law_random : List Str := ["_law_generator_here", "_law_bound", "_law_drawn", "_law_turn"]
theorem sc__law_random : FnScope N__law_random ["_law_generator_here", "_law_bound"] (defScope s__law_random) := ⟨rfl, rfl, rfl, by decide +kernel, rfl, by decide +kernel, by decide +kernel⟩
abbrev s__law_size : Stmt := topS 24
abbrev N__law_size : List Str := ["_law_generator_here", "_law_least", "_law_most"]
theorem sc__law_size : FnScope N__law_size ["_law_generator_here", "_law_least", "_law_most"] (defScope s__law_size) := ⟨rfl, rfl, rfl, by decide +kernel, rfl, by decide +kernel, by decide +kernel⟩
abbrev s__law_letters : Stmt := topS 23
abbrev N__law_letters : List Str := ["_law_generator_here", "_law_least", "_law_most", "_law_left", "_law_many", "_law_turn"]
theorem sc__law_letters : FnScope N__law_letters ["_law_generator_here", "_law_least", "_law_most"] (defScope s__law_letters) := ⟨rfl, rfl, rfl, by decide +kernel, rfl, by decide +kernel, by decide +kernel⟩
abbrev s__law_is_read : Stmt := topS 27
abbrev N__law_is_read : List Str := ["_law_word", "_law_text_here", "_law_at", "_law_letter"]
theorem sc__law_is_read : FnScope N__law_is_read ["_law_word", "_law_text_here"] (defScope s__law_is_read) := ⟨rfl, rfl, rfl, by decide +kernel, rfl, by decide +kernel, by decide +kernel⟩
abbrev s__law_longer : Stmt := topS 28
abbrev N__law_longer : List Str := ["_law_words", "_law_letters_here", "_law_text_here", "_law_found", "_law_word", "_law_letter"]
theorem sc__law_longer : FnScope N__law_longer ["_law_words", "_law_letters_here", "_law_text_here"] (defScope s__law_longer) := ⟨rfl, rfl, rfl, by decide +kernel, rfl, by decide +kernel, by decide +kernel⟩
abbrev s__law_reads : Stmt := topS 29
abbrev N__law_reads : List Str := ["_law_depth", "_law_text_here", "_law_level", "_law_found", "_law_letters_here", "_law_letter", "_law_size_here"]
theorem sc__law_reads : FnScope N__law_reads ["_law_depth", "_law_text_here"] (defScope s__law_reads) := ⟨rfl, rfl, rfl, by decide +kernel, rfl, by decide +kernel, by decide +kernel⟩
abbrev s__law_rank_ahead : Stmt := topS 31
abbrev N__law_rank_ahead : List Str := ["_law_text_here", "_law_at", "_law_words", "_law_word"]
theorem sc__law_rank_ahead : FnScope N__law_rank_ahead ["_law_text_here", "_law_at"] (defScope s__law_rank_ahead) := ⟨rfl, rfl, rfl, by decide +kernel, rfl, by decide +kernel, by decide +kernel⟩
abbrev s__law_ranks : Stmt := topS 32
abbrev N__law_ranks : List Str := ["_law_text_here", "_law_found", "_law_back", "_law_at"]
theorem sc__law_ranks : FnScope N__law_ranks ["_law_text_here"] (defScope s__law_ranks) := ⟨rfl, rfl, rfl, by decide +kernel, rfl, by decide +kernel, by decide +kernel⟩
abbrev s__law_text : Stmt := topS 25
abbrev N__law_text : List Str := ["_law_generator_here", "_law_letters_here", "_law_least", "_law_most", "_law_many", "_law_text_here", "_law_turn"]
theorem sc__law_text : FnScope N__law_text ["_law_generator_here", "_law_letters_here", "_law_least", "_law_most"] (defScope s__law_text) := ⟨rfl, rfl, rfl, by decide +kernel, rfl, by decide +kernel, by decide +kernel⟩
abbrev s__law_told_right : Stmt := topS 36
abbrev N__law_told_right : List Str := ["_law_text_here", "_law_due", "_law_told"]
theorem sc__law_told_right : FnScope N__law_told_right ["_law_text_here", "_law_due"] (defScope s__law_told_right) := ⟨rfl, rfl, rfl, by decide +kernel, rfl, by decide +kernel, by decide +kernel⟩
abbrev s_is_whole : Stmt := topS 5
abbrev N_is_whole : List Str := ["value"]
theorem sc_is_whole : FnScope N_is_whole ["value"] (defScope s_is_whole) := ⟨rfl, rfl, rfl, by decide +kernel, rfl, by decide +kernel, by decide +kernel⟩
abbrev s_is_count : Stmt := topS 6
abbrev N_is_count : List Str := ["value"]
theorem sc_is_count : FnScope N_is_count ["value"] (defScope s_is_count) := ⟨rfl, rfl, rfl, by decide +kernel, rfl, by decide +kernel, by decide +kernel⟩
abbrev s_need_depth : Stmt := topS 11
abbrev N_need_depth : List Str := ["depth"]
theorem sc_need_depth : FnScope N_need_depth ["depth"] (defScope s_need_depth) := ⟨rfl, rfl, rfl, by decide +kernel, rfl, by decide +kernel, by decide +kernel⟩
abbrev s__going : Stmt := topS 17
abbrev N__going : List Str := ["depth", "text", "place", "front", "back"]
theorem sc__going : FnScope N__going ["depth", "text"] (defScope s__going) := ⟨rfl, rfl, rfl, by decide +kernel, rfl, by decide +kernel, by decide +kernel⟩
abbrev s_can_go : Stmt := topS 14
abbrev N_can_go : List Str := ["depth", "text"]
theorem sc_can_go : FnScope N_can_go ["depth", "text"] (defScope s_can_go) := ⟨rfl, rfl, rfl, by decide +kernel, rfl, by decide +kernel, by decide +kernel⟩
abbrev s__law_goes : Stmt := topS 35
abbrev N__law_goes : List Str := ["_law_depth", "_law_text_here", "_law_due", "_law_at"]
theorem sc__law_goes : FnScope N__law_goes ["_law_depth", "_law_text_here"] (defScope s__law_goes) := ⟨rfl, rfl, rfl, by decide +kernel, rfl, by decide +kernel, by decide +kernel⟩
abbrev s__law_right : Stmt := topS 37
abbrev N__law_right : List Str := ["_law_generator_here", "_law_letters_here", "_law_text_here", "_law_depth", "_law_due", "_law_level", "_law_told", "_law_goes_here", "_law_at", "_law_pair"]
theorem sc__law_right : FnScope N__law_right ["_law_generator_here"] (defScope s__law_right) := ⟨rfl, rfl, rfl, by decide +kernel, rfl, by decide +kernel, by decide +kernel⟩
abbrev s__law_long_right : Stmt := topS 38
abbrev N__law_long_right : List Str := ["_law_generator_here", "_law_letters_here", "_law_text_here", "_law_due", "_law_level", "_law_at", "_law_pair"]
theorem sc__law_long_right : FnScope N__law_long_right ["_law_generator_here"] (defScope s__law_long_right) := ⟨rfl, rfl, rfl, by decide +kernel, rfl, by decide +kernel, by decide +kernel⟩
abbrev s_law : Stmt := topS 39
abbrev N_law : List Str := ["_law_script", "_law_index", "_law_generator_here", "_law_great", "_law_due"]
theorem sc_law : FnScope N_law ["_law_script"] (defScope s_law) := ⟨rfl, rfl, rfl, by decide +kernel, rfl, by decide +kernel, by decide +kernel⟩
structure Tx (K : PySem.W.Frag) (mg : Str → Option Value) where
  a__law_row : Addr
  fd__law_row : FuncData
  F__law_row : Fun K "_law_row" "_law_row" s__law_row a__law_row fd__law_row
  g__law_row : mg "_law_row" = some (.ref a__law_row)
  a__law_long_ranks : Addr
  fd__law_long_ranks : FuncData
  F__law_long_ranks : Fun K "_law_long_ranks" "_law_long_ranks" s__law_long_ranks a__law_long_ranks fd__law_long_ranks
  g__law_long_ranks : mg "_law_long_ranks" = some (.ref a__law_long_ranks)
  a__law_cell : Addr
  fd__law_cell : FuncData
  F__law_cell : Fun K "_law_cell" "_law_cell" s__law_cell a__law_cell fd__law_cell
  g__law_cell : mg "_law_cell" = some (.ref a__law_cell)
  a__law_generator : Addr
  fd__law_generator : FuncData
  F__law_generator : Fun K "_law_generator" "_law_generator" s__law_generator a__law_generator fd__law_generator
  g__law_generator : mg "_law_generator" = some (.ref a__law_generator)
  a__law_same : Addr
  fd__law_same : FuncData
  F__law_same : Fun K "_law_same" "_law_same" s__law_same a__law_same fd__law_same
  g__law_same : mg "_law_same" = some (.ref a__law_same)
  a_is_text : Addr
  fd_is_text : FuncData
  F_is_text : Fun K "is_text" "is_text" s_is_text a_is_text fd_is_text
  g_is_text : mg "is_text" = some (.ref a_is_text)
  a_need_text : Addr
  fd_need_text : FuncData
  F_need_text : Fun K "need_text" "need_text" s_need_text a_need_text fd_need_text
  g_need_text : mg "need_text" = some (.ref a_need_text)
  a__front_ranks : Addr
  fd__front_ranks : FuncData
  F__front_ranks : Fun K "_front_ranks" "_front_ranks" s__front_ranks a__front_ranks fd__front_ranks
  g__front_ranks : mg "_front_ranks" = some (.ref a__front_ranks)
  a__ranks : Addr
  fd__ranks : FuncData
  F__ranks : Fun K "_ranks" "_ranks" s__ranks a__ranks fd__ranks
  g__ranks : mg "_ranks" = some (.ref a__ranks)
  a_ranks : Addr
  fd_ranks : FuncData
  F_ranks : Fun K "ranks" "ranks" s_ranks a_ranks fd_ranks
  g_ranks : mg "ranks" = some (.ref a_ranks)
  a__law_hash : Addr
  fd__law_hash : FuncData
  F__law_hash : Fun K "_law_hash" "_law_hash" s__law_hash a__law_hash fd__law_hash
  g__law_hash : mg "_law_hash" = some (.ref a__law_hash)
  a__law_random : Addr
  fd__law_random : FuncData
  F__law_random : Fun K "_law_random" "_law_random" s__law_random a__law_random fd__law_random
  g__law_random : mg "_law_random" = some (.ref a__law_random)
  a__law_size : Addr
  fd__law_size : FuncData
  F__law_size : Fun K "_law_size" "_law_size" s__law_size a__law_size fd__law_size
  g__law_size : mg "_law_size" = some (.ref a__law_size)
  a__law_letters : Addr
  fd__law_letters : FuncData
  F__law_letters : Fun K "_law_letters" "_law_letters" s__law_letters a__law_letters fd__law_letters
  g__law_letters : mg "_law_letters" = some (.ref a__law_letters)
  a__law_is_read : Addr
  fd__law_is_read : FuncData
  F__law_is_read : Fun K "_law_is_read" "_law_is_read" s__law_is_read a__law_is_read fd__law_is_read
  g__law_is_read : mg "_law_is_read" = some (.ref a__law_is_read)
  a__law_longer : Addr
  fd__law_longer : FuncData
  F__law_longer : Fun K "_law_longer" "_law_longer" s__law_longer a__law_longer fd__law_longer
  g__law_longer : mg "_law_longer" = some (.ref a__law_longer)
  a__law_reads : Addr
  fd__law_reads : FuncData
  F__law_reads : Fun K "_law_reads" "_law_reads" s__law_reads a__law_reads fd__law_reads
  g__law_reads : mg "_law_reads" = some (.ref a__law_reads)
  a__law_rank_ahead : Addr
  fd__law_rank_ahead : FuncData
  F__law_rank_ahead : Fun K "_law_rank_ahead" "_law_rank_ahead" s__law_rank_ahead a__law_rank_ahead fd__law_rank_ahead
  g__law_rank_ahead : mg "_law_rank_ahead" = some (.ref a__law_rank_ahead)
  a__law_ranks : Addr
  fd__law_ranks : FuncData
  F__law_ranks : Fun K "_law_ranks" "_law_ranks" s__law_ranks a__law_ranks fd__law_ranks
  g__law_ranks : mg "_law_ranks" = some (.ref a__law_ranks)
  a__law_text : Addr
  fd__law_text : FuncData
  F__law_text : Fun K "_law_text" "_law_text" s__law_text a__law_text fd__law_text
  g__law_text : mg "_law_text" = some (.ref a__law_text)
  a__law_told_right : Addr
  fd__law_told_right : FuncData
  F__law_told_right : Fun K "_law_told_right" "_law_told_right" s__law_told_right a__law_told_right fd__law_told_right
  g__law_told_right : mg "_law_told_right" = some (.ref a__law_told_right)
  a_is_whole : Addr
  fd_is_whole : FuncData
  F_is_whole : Fun K "is_whole" "is_whole" s_is_whole a_is_whole fd_is_whole
  g_is_whole : mg "is_whole" = some (.ref a_is_whole)
  a_is_count : Addr
  fd_is_count : FuncData
  F_is_count : Fun K "is_count" "is_count" s_is_count a_is_count fd_is_count
  g_is_count : mg "is_count" = some (.ref a_is_count)
  a_need_depth : Addr
  fd_need_depth : FuncData
  F_need_depth : Fun K "need_depth" "need_depth" s_need_depth a_need_depth fd_need_depth
  g_need_depth : mg "need_depth" = some (.ref a_need_depth)
  a__going : Addr
  fd__going : FuncData
  F__going : Fun K "_going" "_going" s__going a__going fd__going
  g__going : mg "_going" = some (.ref a__going)
  a_can_go : Addr
  fd_can_go : FuncData
  F_can_go : Fun K "can_go" "can_go" s_can_go a_can_go fd_can_go
  g_can_go : mg "can_go" = some (.ref a_can_go)
  a__law_goes : Addr
  fd__law_goes : FuncData
  F__law_goes : Fun K "_law_goes" "_law_goes" s__law_goes a__law_goes fd__law_goes
  g__law_goes : mg "_law_goes" = some (.ref a__law_goes)
  a__law_right : Addr
  fd__law_right : FuncData
  F__law_right : Fun K "_law_right" "_law_right" s__law_right a__law_right fd__law_right
  g__law_right : mg "_law_right" = some (.ref a__law_right)
  a__law_long_right : Addr
  fd__law_long_right : FuncData
  F__law_long_right : Fun K "_law_long_right" "_law_long_right" s__law_long_right a__law_long_right fd__law_long_right
  g__law_long_right : mg "_law_long_right" = some (.ref a__law_long_right)
  a_law : Addr
  fd_law : FuncData
  F_law : Fun K "law" "law" s_law a_law fd_law
  g_law : mg "law" = some (.ref a_law)
  n_range : mg "range" = none
  n_len : mg "len" = none
  n_min : mg "min" = none
  n_enumerate : mg "enumerate" = none
  n_sum : mg "sum" = none
  n_int : mg "int" = none
  n_max : mg "max" = none
  n_repr : mg "repr" = none
  n_isinstance : mg "isinstance" = none
  n_str : mg "str" = none
  n_list : mg "list" = none
  n_zip : mg "zip" = none
  n_sorted : mg "sorted" = none
  n_bool : mg "bool" = none
section
variable {K : PySem.W.Frag} {mg : Str → Option Value}
theorem b__law_row (T : Tx K mg) : Binds K T.fd__law_row ["_law_text_here"] [] := T.F__law_row.binds fun _ _ _ _ _ _ us hl => match us, hl with | [_], _ => rfl
theorem b__law_long_ranks (T : Tx K mg) : Binds K T.fd__law_long_ranks ["_law_text_here"] [] := T.F__law_long_ranks.binds fun _ _ _ _ _ _ us hl => match us, hl with | [_], _ => rfl
theorem b__law_cell (T : Tx K mg) : Binds K T.fd__law_cell ["_law_script", "_law_index"] [] := T.F__law_cell.binds fun _ _ _ _ _ _ us hl => match us, hl with | [_, _], _ => rfl
theorem b__law_generator (T : Tx K mg) : Binds K T.fd__law_generator ["_law_script", "_law_index"] [] := T.F__law_generator.binds fun _ _ _ _ _ _ us hl => match us, hl with | [_, _], _ => rfl
theorem b__law_same (T : Tx K mg) : Binds K T.fd__law_same ["_law_told", "_law_due"] [] := T.F__law_same.binds fun _ _ _ _ _ _ us hl => match us, hl with | [_, _], _ => rfl
theorem b_is_text (T : Tx K mg) : Binds K T.fd_is_text ["value"] [] := T.F_is_text.binds fun _ _ _ _ _ _ us hl => match us, hl with | [_], _ => rfl
theorem b_need_text (T : Tx K mg) : Binds K T.fd_need_text ["text"] [] := T.F_need_text.binds fun _ _ _ _ _ _ us hl => match us, hl with | [_], _ => rfl
theorem b__front_ranks (T : Tx K mg) : Binds K T.fd__front_ranks ["text"] [] := T.F__front_ranks.binds fun _ _ _ _ _ _ us hl => match us, hl with | [_], _ => rfl
theorem b__ranks (T : Tx K mg) : Binds K T.fd__ranks ["text"] [] := T.F__ranks.binds fun _ _ _ _ _ _ us hl => match us, hl with | [_], _ => rfl
theorem b_ranks (T : Tx K mg) : Binds K T.fd_ranks ["text"] [] := T.F_ranks.binds fun _ _ _ _ _ _ us hl => match us, hl with | [_], _ => rfl
theorem b__law_hash (T : Tx K mg) : Binds K T.fd__law_hash ["_law_seed", "_law_index"] [] := T.F__law_hash.binds fun _ _ _ _ _ _ us hl => match us, hl with | [_, _], _ => rfl
theorem b__law_random (T : Tx K mg) : Binds K T.fd__law_random ["_law_generator_here", "_law_bound"] [] := T.F__law_random.binds fun _ _ _ _ _ _ us hl => match us, hl with | [_, _], _ => rfl
theorem b__law_size (T : Tx K mg) : Binds K T.fd__law_size ["_law_generator_here", "_law_least", "_law_most"] [] := T.F__law_size.binds fun _ _ _ _ _ _ us hl => match us, hl with | [_, _, _], _ => rfl
theorem b__law_letters (T : Tx K mg) : Binds K T.fd__law_letters ["_law_generator_here", "_law_least", "_law_most"] [] := T.F__law_letters.binds fun _ _ _ _ _ _ us hl => match us, hl with | [_, _, _], _ => rfl
theorem b__law_is_read (T : Tx K mg) : Binds K T.fd__law_is_read ["_law_word", "_law_text_here"] [] := T.F__law_is_read.binds fun _ _ _ _ _ _ us hl => match us, hl with | [_, _], _ => rfl
theorem b__law_longer (T : Tx K mg) : Binds K T.fd__law_longer ["_law_words", "_law_letters_here", "_law_text_here"] [] := T.F__law_longer.binds fun _ _ _ _ _ _ us hl => match us, hl with | [_, _, _], _ => rfl
theorem b__law_reads (T : Tx K mg) : Binds K T.fd__law_reads ["_law_depth", "_law_text_here"] [] := T.F__law_reads.binds fun _ _ _ _ _ _ us hl => match us, hl with | [_, _], _ => rfl
theorem b__law_rank_ahead (T : Tx K mg) : Binds K T.fd__law_rank_ahead ["_law_text_here", "_law_at"] [] := T.F__law_rank_ahead.binds fun _ _ _ _ _ _ us hl => match us, hl with | [_, _], _ => rfl
theorem b__law_ranks (T : Tx K mg) : Binds K T.fd__law_ranks ["_law_text_here"] [] := T.F__law_ranks.binds fun _ _ _ _ _ _ us hl => match us, hl with | [_], _ => rfl
theorem b__law_text (T : Tx K mg) : Binds K T.fd__law_text ["_law_generator_here", "_law_letters_here", "_law_least", "_law_most"] [] := T.F__law_text.binds fun _ _ _ _ _ _ us hl => match us, hl with | [_, _, _, _], _ => rfl
theorem b__law_told_right (T : Tx K mg) : Binds K T.fd__law_told_right ["_law_text_here", "_law_due"] [] := T.F__law_told_right.binds fun _ _ _ _ _ _ us hl => match us, hl with | [_, _], _ => rfl
theorem b_is_whole (T : Tx K mg) : Binds K T.fd_is_whole ["value"] [] := T.F_is_whole.binds fun _ _ _ _ _ _ us hl => match us, hl with | [_], _ => rfl
theorem b_is_count (T : Tx K mg) : Binds K T.fd_is_count ["value"] [] := T.F_is_count.binds fun _ _ _ _ _ _ us hl => match us, hl with | [_], _ => rfl
theorem b_need_depth (T : Tx K mg) : Binds K T.fd_need_depth ["depth"] [] := T.F_need_depth.binds fun _ _ _ _ _ _ us hl => match us, hl with | [_], _ => rfl
theorem b__going (T : Tx K mg) : Binds K T.fd__going ["depth", "text"] [] := T.F__going.binds fun _ _ _ _ _ _ us hl => match us, hl with | [_, _], _ => rfl
theorem b_can_go (T : Tx K mg) : Binds K T.fd_can_go ["depth", "text"] [] := T.F_can_go.binds fun _ _ _ _ _ _ us hl => match us, hl with | [_, _], _ => rfl
theorem b__law_goes (T : Tx K mg) : Binds K T.fd__law_goes ["_law_depth", "_law_text_here"] [] := T.F__law_goes.binds fun _ _ _ _ _ _ us hl => match us, hl with | [_, _], _ => rfl
theorem b__law_right (T : Tx K mg) : Binds K T.fd__law_right ["_law_generator_here"] [] := T.F__law_right.binds fun _ _ _ _ _ _ us hl => match us, hl with | [_], _ => rfl
theorem b__law_long_right (T : Tx K mg) : Binds K T.fd__law_long_right ["_law_generator_here"] [] := T.F__law_long_right.binds fun _ _ _ _ _ _ us hl => match us, hl with | [_], _ => rfl
theorem b_law (T : Tx K mg) : Binds K T.fd_law ["_law_script"] [] := T.F_law.binds fun _ _ _ _ _ _ us hl => match us, hl with | [_], _ => rfl
end
end K78
set_option Elab.async false
set_option linter.all false
set_option maxRecDepth 100000
set_option maxHeartbeats 4000000
namespace K78
open PySem PySem.Spec PyProof.Rows L2 Evl Bx
section
variable {P : Program} {w : World} {K : PySem.W.Frag} {mg : Str → Option Value} {base : Heap}
/-! ### texts -/
def sp_is_text (K : PySem.W.Frag) : Sp := fun vs H Q _ => ∃ l, vs = [tx l] ∧ Low l ∧ Q (.bl true) H
theorem ok_is_text (T : Tx K mg) : FnOk P w K mg base CX0 1 T.a_is_text T.fd_is_text ["value"] (sp_is_text K) := by
  refine T.F_is_text.ok sc_is_text (fun vs H Q E h => ?_) (fun cdv A outer s H vs Q E hr h => ?_)
  · obtain ⟨l, rfl, _⟩ := h
    rfl
  · obtain ⟨l, rfl, hl, q⟩ := h
    refine ⟨_, (pss_cons (ps_if (pt_not (pt_val (pe_callB call_isi (by rfl) T.n_isinstance (by decide +kernel) (pa_cons (pv 0) (pa_cons (pe_bltn (v := .ty "str") (u := .type "str") (by rfl) T.n_str (by decide +kernel) rfl) pa_nil))))) (pss_one (ps_ret pe_bl)) pss_nil) (pss_one (ps_ret (pe_or (pe_cmpR op_eq (pv 0) pe_str (nomark _)) (pe_one (pe_and (pe_m0 PySem.F.slot_str_isascii PySem.F.type_str_isascii mt_isascii (pv 0)) (pe_and (pe_m0 PySem.F.slot_str_isalpha PySem.F.type_str_isalpha mt_isalpha (pv 0)) (pe_one (pe_m0 PySem.F.slot_str_islower PySem.F.type_str_islower mt_islower (pv 0)))))))))), ?_⟩
    refine ⟨_, rfl, _, _, .type "str", _, true, rfl, .ty _, .base (.str _), kit_ty (by decide +kernel), true, rfl, iteF ?_⟩
    refine ⟨_, rfl, rfl, _, rfl, ?_⟩
    by_cases n : l = []
    · subst n
      rw [if_pos (by rfl)]
      exact q
    · have ne : decide (tx l = V.str (PySem.Str.ofString "")) = false := decide_eq_false fun z => n ((tx_inj (l := l) (m := [])).mp (z.trans (by rfl)))
      rw [ne]
      refine iteF ?_
      have a1 := low_ascii hl
      have a2 := low_alpha hl n
      have a3 := low_lower hl n
      refine ⟨_, rfl, ⟨_, rfl⟩, _, rfl, rfl, trivial, _, rfl, ?_⟩
      rw [a1]
      refine iteT ⟨_, rfl, ⟨_, rfl⟩, _, rfl, rfl, trivial, _, rfl, ?_⟩
      rw [a2]
      refine iteT ⟨_, rfl, ⟨_, rfl⟩, _, rfl, rfl, trivial, ?_⟩
      rw [a3]
      exact q
def sp_need_text (K : PySem.W.Frag) : Sp := fun vs H Q _ => ∃ l, vs = [tx l] ∧ Low l ∧ Q .non H
theorem ok_need_text (T : Tx K mg) : FnOk P w K mg base CX0 2 T.a_need_text T.fd_need_text ["text"] (sp_need_text K) := by
  refine T.F_need_text.ok sc_need_text (fun vs H Q E h => ?_) (fun cdv A outer s H vs Q E hr h => ?_)
  · obtain ⟨l, rfl, _⟩ := h
    rfl
  · obtain ⟨l, rfl, hl, q⟩ := h
    refine ⟨_, (pss_one (ps_if (pt_not (pt_val (pe_call (ok_is_text T) (hr.mono (by decide)) (by rfl) T.g_is_text T.F_is_text.kp (b_is_text T) .nil pass0 (pa_cons (pv 0) pa_nil)))) (pss_one ps_never) pss_nil)), ?_⟩
    exact ⟨_, rfl, l, rfl, hl, true, rfl, iteF q⟩
def sp_is_whole (K : PySem.W.Frag) : Sp := fun vs H Q _ => ∃ i : Int, vs = [.int i] ∧ Q (.bl true) H
theorem ok_is_whole (T : Tx K mg) : FnOk P w K mg base CX0 1 T.a_is_whole T.fd_is_whole ["value"] (sp_is_whole K) := by
  refine T.F_is_whole.ok sc_is_whole (fun vs H Q E h => ?_) (fun cdv A outer s H vs Q E hr h => ?_)
  · obtain ⟨l, rfl, _⟩ := h
    rfl
  · obtain ⟨i, rfl, q⟩ := h
    refine ⟨_, (pss_one (ps_ret (pe_and (pe_callB call_isi (by rfl) T.n_isinstance (by decide +kernel) (pa_cons (pv 0) (pa_cons (pe_bltn (v := .ty "int") (u := .type "int") (by rfl) T.n_int (by decide +kernel) rfl) pa_nil))) (pe_one (pe_not (pe_callB call_isi (by rfl) T.n_isinstance (by decide +kernel) (pa_cons (pv 0) (pa_cons (pe_bltn (v := .ty "bool") (u := .type "bool") (by rfl) T.n_bool (by decide +kernel) rfl) pa_nil)))))))), ?_⟩
    refine ⟨_, rfl, _, _, .type "int", _, true, rfl, .ty _, .base (.int _), kit_ty (by decide +kernel), true, rfl, iteT ?_⟩
    exact ⟨_, rfl, _, _, .type "int", _, false, rfl, .ty _, .base (.int _), kit_ty (by decide +kernel), false, rfl, q⟩
def sp_is_count (K : PySem.W.Frag) : Sp := fun vs H Q _ => ∃ i : Nat, vs = [.int (i : Nat)] ∧ Q (.bl true) H
theorem ok_is_count (T : Tx K mg) : FnOk P w K mg base CX0 2 T.a_is_count T.fd_is_count ["value"] (sp_is_count K) := by
  refine T.F_is_count.ok sc_is_count (fun vs H Q E h => ?_) (fun cdv A outer s H vs Q E hr h => ?_)
  · obtain ⟨l, rfl, _⟩ := h
    rfl
  · obtain ⟨i, rfl, q⟩ := h
    refine ⟨_, (pss_one (ps_ret (pe_and (pe_call (ok_is_whole T) (hr.mono (by decide)) (by rfl) T.g_is_whole T.F_is_whole.kp (b_is_whole T) .nil pass0 (pa_cons (pv 0) pa_nil)) (pe_one (pe_cmpR op_ge (pv 0) pe_int (nomark _)))))), ?_⟩
    refine ⟨_, rfl, _, rfl, true, rfl, iteT ?_⟩
    refine ⟨_, rfl, _, 0, rfl, rfl, ?_⟩
    have e : decide (((i : Nat) : Int) ≥ 0) = true := decide_eq_true (by omega)
    show Q (.bl (decide (((i : Nat) : Int) ≥ 0))) H
    rw [e]
    exact q
def sp_need_depth (K : PySem.W.Frag) : Sp := fun vs H Q _ => ∃ i : Nat, vs = [.int (i : Nat)] ∧ Q .non H
theorem ok_need_depth (T : Tx K mg) : FnOk P w K mg base CX0 3 T.a_need_depth T.fd_need_depth ["depth"] (sp_need_depth K) := by
  refine T.F_need_depth.ok sc_need_depth (fun vs H Q E h => ?_) (fun cdv A outer s H vs Q E hr h => ?_)
  · obtain ⟨l, rfl, _⟩ := h
    rfl
  · obtain ⟨i, rfl, q⟩ := h
    refine ⟨_, (pss_one (ps_if (pt_not (pt_val (pe_call (ok_is_count T) (hr.mono (by decide)) (by rfl) T.g_is_count T.F_is_count.kp (b_is_count T) .nil pass0 (pa_cons (pv 0) pa_nil)))) (pss_one ps_never) pss_nil)), ?_⟩
    exact ⟨_, rfl, i, rfl, true, rfl, iteF q⟩
end
end K78
set_option Elab.async false
set_option linter.all false
set_option maxRecDepth 100000
set_option maxHeartbeats 4000000
namespace K78
open PySem PySem.Spec PyProof.Rows L2 Evl Bx
section
variable {P : Program} {w : World} {K : PySem.W.Frag} {mg : Str → Option Value} {base : Heap}
/-! ### draws -/
def sp__law_hash (K : PySem.W.Frag) : Sp := fun vs H Q _ => ∃ s i : Int, vs = [.int s, .int i] ∧ 0 ≤ s ∧ s < 2147483647 ∧ 0 ≤ i ∧ i ≤ 2 ^ 60 ∧ ∀ r : Int, 0 ≤ r → r < 2147483647 → Q (.int r) H
theorem ok__law_hash (T : Tx K mg) : FnOk P w K mg base CX0 1 T.a__law_hash T.fd__law_hash ["_law_seed", "_law_index"] (sp__law_hash K) := by
  refine T.F__law_hash.ok sc__law_hash (fun vs H Q E h => ?_) (fun cdv A outer s H vs Q E hr h => ?_)
  · obtain ⟨_, _, rfl, _⟩ := h
    rfl
  · obtain ⟨s0, i, rfl, s1, s2, i1, i2, q⟩ := h
    refine ⟨_, (pss_cons (ps_set (i := 2) sc__law_hash.nd rfl (by first | exact Or.inl rfl | exact Or.inr rfl) (pe_op op_mod (pe_callTy call_int1 (by rfl) T.n_int (by decide +kernel) (pa_cons (pe_op op_add (pe_op op_add (pe_op op_add (pe_op op_mulW (pv 0) pe_int) (pe_op op_mulW (pe_op op_mulW pe_int (pv 1)) (pv 1))) (pe_op op_mulW pe_int (pv 1))) pe_int) pa_nil)) pe_int)) (pss_cons (ps_set (i := 2) sc__law_hash.nd rfl (by first | exact Or.inl rfl | exact Or.inr rfl) (pe_op op_mod (pe_callTy call_int1 (by rfl) T.n_int (by decide +kernel) (pa_cons (pe_op op_add (pe_op op_add (pe_op op_mulW (pv 2) (pv 2)) (pe_op op_mulW pe_int (pv 1))) pe_int) pa_nil)) pe_int)) (pss_one (ps_ret (pe_op op_mod (pe_callTy call_int1 (by rfl) T.n_int (by decide +kernel) (pa_cons (pe_op op_mulW (pv 2) pe_int) pa_nil)) pe_int))))), ?_⟩
    refine ⟨_, rfl, _, _, rfl, rfl, mul_ok (small_abs (by omega)) (small_abs (by decide)), _, rfl, _, _, rfl, rfl, mul_ok (small_abs (by decide)) (small_abs (by omega)), _, rfl, _, _, rfl, rfl, mul_ok (mid_abs (by omega)) (small_abs (by omega)), _, _, rfl, rfl, _, rfl, _, _, rfl, rfl, mul_ok (small_abs (by decide)) (small_abs (by omega)), _, _, rfl, rfl, _, _, rfl, rfl, .inl ⟨_, rfl, ?_⟩⟩
    refine ⟨_, _, rfl, rfl, (by show (0 : Int) < 2147483629; decide), ?_⟩
    generalize hx : (s0 * 1140671 + 27644437 * i * i + 131 * i + 19 : Int) % 2147483629 = x
    have x1 : 0 ≤ x := by rw [← hx]; exact Int.emod_nonneg _ (by decide)
    have x2 : x < 2147483629 := by rw [← hx]; exact Int.emod_lt_of_pos _ (by decide)
    refine ⟨_, rfl, _, rfl, _, _, rfl, rfl, mul_ok (small_abs (by omega)) (small_abs (by omega)), _, rfl, _, _, rfl, rfl, mul_ok (small_abs (by decide)) (small_abs (by omega)), _, _, rfl, rfl, _, _, rfl, rfl, .inl ⟨_, rfl, ?_⟩⟩
    refine ⟨_, _, rfl, rfl, (by show (0 : Int) < 2147483587; decide), ?_⟩
    generalize hy : (x * x + 62089 * i + 32416187 : Int) % 2147483587 = y
    have y1 : 0 ≤ y := by rw [← hy]; exact Int.emod_nonneg _ (by decide)
    have y2 : y < 2147483587 := by rw [← hy]; exact Int.emod_lt_of_pos _ (by decide)
    refine ⟨_, rfl, _, _, rfl, rfl, mul_ok (small_abs (by omega)) (small_abs (by decide)), .inl ⟨_, rfl, ?_⟩⟩
    refine ⟨_, _, rfl, rfl, (by show (0 : Int) < 2147483647; decide), ?_⟩
    exact q _ (Int.emod_nonneg _ (by decide)) (Int.emod_lt_of_pos _ (by decide))
end
end K78
set_option Elab.async false
set_option linter.all false
set_option maxRecDepth 100000
set_option maxHeartbeats 4000000
namespace K78
open PySem PySem.Spec PyProof.Rows L2 Evl Bx
section
variable {P : Program} {w : World} {K : PySem.W.Frag} {mg : Str → Option Value} {base : Heap}
def sp__law_random (K : PySem.W.Frag) : Sp := fun vs H Q _ => ∃ (g : Addr) (bd : Int) (n : Nat), vs = [.ref g, .int bd] ∧ 0 < bd ∧ bd < 2 ^ 200 ∧ Gen H g n ∧ n ≤ 2 ^ 50 ∧
  ∀ (r : Int) H', 0 ≤ r → r < bd → Xg g H H' → Gen H' g (n + 10) → Q (.int r) H'
theorem grow_lt (i : Nat) (hi : i ≤ 20) : (2 : Nat) ^ (32 * i) < 2 ^ 9000 := Nat.pow_lt_pow_right (by decide) (by omega)
theorem ok__law_random (T : Tx K mg) : FnOk P w K mg base CX0 2 T.a__law_random T.fd__law_random ["_law_generator_here", "_law_bound"] (sp__law_random K) := by
  refine T.F__law_random.ok sc__law_random (fun vs H Q E h => ?_) (fun cdv A outer s H vs Q E hr h => ?_)
  · obtain ⟨_, _, _, rfl, _⟩ := h
    rfl
  · obtain ⟨g, bd, n, rfl, b1, b2, ⟨b, s0, c, hg, g1, g2, g3, g4, g5, g6⟩, n50, q⟩ := h
    refine ⟨_, (pss_cons (ps_if (pt_cmpR op_gt (pe_ix ix_list (pv 0) pe_int (fun _ _ => rfl)) pe_int (nomark _)) (pss_cons (ps_set (i := 2) sc__law_random.nd rfl (by first | exact Or.inl rfl | exact Or.inr rfl) (pe_op op_mod (pe_callTy call_int1 (by rfl) T.n_int (by decide +kernel) (pa_cons (pe_ix ix_list (pv 0) pe_int (fun _ _ => rfl)) pa_nil)) (pv 1))) (pss_cons (ps_asg (pe_op op_fdivW (pe_ix ix_list (pv 0) pe_int (fun _ _ => rfl)) (pv 1)) (pg_sub (pv 0) pe_int set_list)) (pss_one (ps_ret (pv 2))))) pss_nil) (pss_cons (ps_set (i := 2) sc__law_random.nd rfl (by first | exact Or.inl rfl | exact Or.inr rfl) pe_int) (pss_cons (ps_for PassesOwn.never rfl (pi_range1 (by rfl) T.n_range (pa_cons (pe_op op_add pe_int (pe_op op_fdivW (pe_bits (pv 1)) pe_int)) pa_nil)) (pg_name (i := 3) sc__law_random.nd rfl (by first | exact Or.inl rfl | exact Or.inr rfl)) (pss_cons (ps_asg (pe_op op_add (pe_ix ix_list (pv 0) pe_int (fun _ _ => rfl)) pe_int) (pg_sub (pv 0) pe_int set_list)) (pss_one (ps_set (i := 2) sc__law_random.nd rfl (by first | exact Or.inl rfl | exact Or.inr rfl) (pe_op op_add (pe_op op_mulW (pv 2) pe_int) (pe_call (ok__law_hash T) (hr.mono (by decide)) (by rfl) T.g__law_hash T.F__law_hash.kp (b__law_hash T) .nil pass0 (pa_cons (pe_ix ix_list (pv 0) pe_int (fun _ _ => rfl)) (pa_cons (pe_ix ix_list (pv 0) pe_int (fun _ _ => rfl)) pa_nil)))))))) (pss_one (ps_ret (pe_op op_mod (pe_callTy call_int1 (by rfl) T.n_int (by decide +kernel) (pa_cons (pv 2) pa_nil)) (pv 1))))))), ?_⟩
    refine ⟨_, rfl, g, _, _, .int b, rfl, rfl, .inl (.inl hg), atI_nat (j := 0) rfl, _, 0, rfl, rfl, _, rfl, ite2 (fun h => ?_) (fun h => ?_)⟩
    · -- a great seed is left
      refine ⟨_, rfl, g, _, _, .int b, rfl, rfl, .inl (.inl hg), atI_nat (j := 0) rfl, .inl ⟨_, rfl, ?_⟩⟩
      refine ⟨_, rfl, _, _, rfl, rfl, b1, ?_⟩
      refine ⟨_, rfl, g, _, _, .int b, rfl, rfl, .inl (.inl hg), atI_nat (j := 0) rfl, _, rfl, _, _, rfl, rfl, wide_div b1 (b := 200) (by omega) (by decide) (by decide), ?_⟩
      refine ⟨_, rfl, g, _, _, 0, rfl, rfl, hg, ixN_nat (j := 0) (by simp), ?_⟩
      refine ⟨_, rfl, q _ _ (Int.emod_nonneg _ (by omega)) (Int.emod_lt_of_pos _ b1) (Xg.refl g H).upd ⟨b / bd, s0, c, upd_same, Int.ediv_nonneg g1 (by omega), ?_, g3, g4, g5, by omega⟩⟩
      exact Int.lt_of_le_of_lt (Int.ediv_le_self _ g1) g2
    · -- the hash
      have hb := bits_le (i := bd) (n := 200) (by decide) (by omega)
      refine ⟨_, rfl, _, rfl, _, _, rfl, rfl, ⟨by decide, by decide⟩, _, _, rfl, rfl, ?_⟩
      have hd : ((Builtin.Int.intBits bd : Nat) : Int) / 30 ≤ 6 := by omega
      have hd0 : 0 ≤ ((Builtin.Int.intBits bd : Nat) : Int) / 30 := by omega
      refine ⟨_, rfl, by omega, by omega, ?_⟩
      have hm : (1 + ((Builtin.Int.intBits bd : Nat) : Int) / 30).toNat ≤ 7 := by omega
      generalize (1 + ((Builtin.Int.intBits bd : Nat) : Int) / 30).toNat = m at hm
      refine for_range (lo := 0) (n := m) (fun i σ H2 => ∃ (dr : Int) (y3 : Option V), σ = [some (.ref g), some (.int bd), some (.int dr), y3] ∧ 0 ≤ dr ∧ dr < 2 ^ (32 * i) ∧ Xg g H H2 ∧ ∃ c2 : Int, H2 g = some (.lst [.int b, .int s0, .int c2]) ∧ 0 ≤ c2 ∧ c2 ≤ n + i) ⟨0, none, rfl, by decide, by decide, Xg.refl g H, c, hg, g5, by omega⟩ (fun i σ H2 hi hp => ?_) (fun σ H2 hp => ?_)
      · obtain ⟨dr, y3, rfl, d0, d1, xg, c2, hg2, c20, c21⟩ := hp
        refine ⟨_, rfl, g, _, _, .int c2, rfl, rfl, .inl (.inl hg2), atI_nat (j := 2) rfl, _, _, rfl, rfl, ?_⟩
        refine ⟨_, rfl, g, _, _, 2, rfl, rfl, hg2, ixN_nat (j := 2) (by simp), ?_⟩
        have hg3 : upd H2 g (.lst [.int b, .int s0, .int (c2 + 1)]) g = some (.lst [.int b, .int s0, .int (c2 + 1)]) := upd_same
        have xg3 : Xg g H (upd H2 g (.lst [.int b, .int s0, .int (c2 + 1)])) := xg.upd
        show _
        have dn : dr.natAbs < 2 ^ 9000 := Nat.lt_of_lt_of_le (m := 2 ^ (32 * i)) (by
          have e : ((2 ^ (32 * i) : Nat) : Int) = (2 : Int) ^ (32 * i) := by rw [Int.natCast_pow]; rfl
          have : (dr.natAbs : Int) < ((2 ^ (32 * i) : Nat) : Int) := by rw [e, Int.natAbs_of_nonneg d0]; exact d1
          omega) (Nat.le_of_lt (grow_lt i (by omega)))
        refine ⟨_, rfl, _, _, rfl, rfl, mul_ok dn (small_abs (by decide)), _, rfl, g, _, _, .int s0, rfl, rfl, .inl (.inl hg3), atI_nat (j := 1) rfl, _, rfl, g, _, _, .int (c2 + 1), rfl, rfl, .inl (.inl hg3), atI_nat (j := 2) rfl, s0, c2 + 1, rfl, g3, g4, by omega, by omega, fun r r1 r2 => ?_⟩
        refine ⟨_, _, rfl, rfl, dr * 2147483587 + r, some (.int (0 + (i : Int))), rfl, ?_, ?_, xg3, c2 + 1, hg3, by omega, by omega⟩
        · have : 0 ≤ dr * 2147483587 := Int.mul_nonneg d0 (by decide)
          omega
        · have e : (2 : Int) ^ (32 * (i + 1)) = 2 ^ (32 * i) * 4294967296 := by
            rw [Nat.mul_add, Int.pow_add]
            rfl
          rw [e]
          generalize (2 : Int) ^ (32 * i) = z at d1 ⊢
          omega
      · obtain ⟨dr, y3, rfl, d0, d1, xg, c2, hg2, c20, c21⟩ := hp
        refine ⟨_, rfl, .inl ⟨_, rfl, ?_⟩⟩
        exact ⟨_, rfl, _, _, rfl, rfl, b1, q _ _ (Int.emod_nonneg _ (by omega)) (Int.emod_lt_of_pos _ b1) xg ⟨b, s0, c2, hg2, g1, g2, g3, g4, c20, by omega⟩⟩
/-! ### cells, generators -/
def sp__law_cell (K : PySem.W.Frag) : Sp := fun vs H Q _ => ∃ (a : Addr) (ns : List Int) (k : Nat), vs = [.ref a, .int (k : Nat)] ∧ SqL K H a (ns.map V.int) ∧ k ≤ 1000 ∧ ∀ (v : Int) H', Ex H H' → Q (.int v) H'
theorem cut_ints (ns : List Int) (lo hi : Option Int) : cutV (ns.map V.int) lo hi = ((ns.drop (HT.sIx ns.length 0 lo)).take (HT.sIx ns.length ns.length hi - HT.sIx ns.length 0 lo)).map V.int := by
  unfold cutV
  rw [List.length_map, List.map_take, List.map_drop]
theorem ok__law_cell (T : Tx K mg) : FnOk P w K mg base CX0 1 T.a__law_cell T.fd__law_cell ["_law_script", "_law_index"] (sp__law_cell K) := by
  refine T.F__law_cell.ok sc__law_cell (fun vs H Q E h => ?_) (fun cdv A outer s H vs Q E hr h => ?_)
  · obtain ⟨_, _, _, rfl, _⟩ := h
    rfl
  · obtain ⟨a, ns, k, rfl, hs, k1, q⟩ := h
    refine ⟨_, (pss_cons (ps_if (pt_cmpR op_lt (pv 1) (pe_callB call_len_seq (by rfl) T.n_len (by decide +kernel) (pa_cons (pv 0) pa_nil)) (nomark _)) (pss_one (ps_ret (pe_ix ix_list (pv 0) (pv 1) (fun _ _ => rfl)))) pss_nil) (pss_one (ps_ret (pe_op op_mod (pe_callB (cr_sum rfl) (by rfl) T.n_sum (by decide +kernel) (pa_cons (pe_slice sl_list (pv 0) po_none (po_some pe_int)) pa_nil)) pe_int)))), ?_⟩
    refine ⟨_, rfl, _, rfl, a, _, rfl, .inl hs, _, _, rfl, rfl, _, rfl, ite2 (fun h => ?_) (fun h => ?_)⟩
    · have h1 := of_decide_eq_true h
      rw [List.length_map] at h1
      have lt : k < ns.length := by omega
      exact ⟨_, rfl, _, rfl, a, _, _, .int ns[k], rfl, rfl, hs, atI_nat (by rw [List.getElem?_map, List.getElem?_eq_getElem lt]; rfl), q _ H (Ex.refl H)⟩
    · refine ⟨_, rfl, 1, rfl, a, _, rfl, hs, fun p np => ?_⟩
      rw [cut_ints]
      refine ⟨p, _, rfl, .inl (.inl upd_same), _, _, rfl, rfl, (by show (0 : Int) < 1000003; decide), q _ _ (Ex.new np)⟩
def sp__law_generator (K : PySem.W.Frag) : Sp := fun vs H Q _ => ∃ (a : Addr) (ns : List Int) (k : Nat), vs = [.ref a, .int (k : Nat)] ∧ SqL K H a (ns.map V.int) ∧ k ≤ 1000 ∧ ∀ (g : Addr) H', Ex H H' → H g = none → Gen H' g (1000 * k) → Q (.ref g) H'
theorem great : ((10 : Int) ^ 60) ^ 10 < 2 ^ 3000 := by decide +kernel
theorem ok__law_generator (T : Tx K mg) : FnOk P w K mg base CX0 2 T.a__law_generator T.fd__law_generator ["_law_script", "_law_index"] (sp__law_generator K) := by
  refine T.F__law_generator.ok sc__law_generator (fun vs H Q E h => ?_) (fun cdv A outer s H vs Q E hr h => ?_)
  · obtain ⟨_, _, _, rfl, _⟩ := h
    rfl
  · obtain ⟨a, ns, k, rfl, hs, k1, q⟩ := h
    refine ⟨_, (pss_cons (ps_set (i := 2) sc__law_generator.nd rfl (by first | exact Or.inl rfl | exact Or.inr rfl) (pe_call (ok__law_cell T) (hr.mono (by decide)) (by rfl) T.g__law_cell T.F__law_cell.kp (b__law_cell T) .nil pass0 (pa_cons (pv 0) (pa_cons (pv 1) pa_nil)))) (pss_one (ps_ret (pe_lst (pa_cons (pe_op op_mod (pe_callTy call_int1 (by rfl) T.n_int (by decide +kernel) (pa_cons (pe_callB (call_max2 rfl) (by rfl) T.n_max (by decide +kernel) (pa_cons (pe_op op_sub (pv 2) (pe_op Rx.op_powB pe_int pe_int)) (pa_cons pe_int pa_nil))) pa_nil)) (pe_op Rx.op_powB (pe_op Rx.op_powB pe_int pe_int) pe_int)) (pa_cons (pe_op op_mod (pe_callTy call_int1 (by rfl) T.n_int (by decide +kernel) (pa_cons (pv 2) pa_nil)) pe_int) (pa_cons (pe_op op_mulW pe_int (pv 1)) pa_nil))))))), ?_⟩
    refine ⟨_, rfl, _, rfl, a, ns, k, rfl, hs, k1, fun v H1 e1 => ?_⟩
    refine ⟨_, rfl, _, _, rfl, rfl, ⟨by decide, by decide +kernel⟩, _, _, rfl, rfl, _, _, rfl, .inl ⟨_, rfl, ?_⟩⟩
    refine ⟨_, _, rfl, rfl, ⟨by decide, by decide +kernel⟩, _, _, rfl, rfl, ⟨by decide, by decide +kernel⟩, _, _, rfl, rfl, ?_, ?_⟩
    · show (0 : Int) < (10 ^ 60) ^ 10
      decide +kernel
    refine ⟨_, rfl, .inl ⟨_, rfl, _, _, rfl, rfl, (by show (0 : Int) < 2147483647; decide), _, rfl, _, _, rfl, rfl, mul_ok (small_abs (by decide)) (small_abs (by omega)), ?_⟩⟩
    refine ⟨by show 3 ≤ sizeLine; decide, fun p np => ?_⟩
    refine q p _ (e1.trans (Ex.new np)) (fresh_back e1 np) ⟨_, _, _, upd_same, ?_, ?_, ?_, ?_, by omega, by omega⟩
    · exact Int.emod_nonneg _ (by
        show ((10 : Int) ^ 60) ^ 10 ≠ 0
        decide +kernel)
    · refine Int.lt_trans (Int.emod_lt_of_pos _ ?_) great
      show (0 : Int) < (10 ^ 60) ^ 10
      decide +kernel
    · exact Int.emod_nonneg _ (by decide)
    · exact Int.emod_lt_of_pos _ (by decide)
end
end K78
set_option Elab.async false
set_option linter.all false
set_option maxRecDepth 100000
set_option maxHeartbeats 4000000
namespace K78
open PySem PySem.Spec PyProof.Rows L2 Evl Bx
section
variable {P : Program} {w : World} {K : PySem.W.Frag} {mg : Str → Option Value} {base : Heap}
theorem map_erase {α β : Type} (f : α → β) : ∀ (l : List α) (k : Nat), (l.map f).eraseIdx k = (l.eraseIdx k).map f
  | [], _ => rfl
  | _ :: _, 0 => rfl
  | x :: l, k + 1 => congrArg (f x :: ·) (map_erase f l k)
theorem erase_perm : ∀ (l : List Nat) (k : Nat) (h : k < l.length), (l.eraseIdx k ++ [l[k]]).Perm l
  | [], _, h => by simp at h
  | x :: l, 0, _ => List.perm_append_comm
  | x :: l, k + 1, h => (erase_perm l k (by simpa using h)).cons x
theorem small_pow2 {i : Int} (h : i.natAbs < 2 ^ 200) : i.natAbs < 2 ^ 9000 := Nat.lt_of_lt_of_le h (Nat.pow_le_pow_right (by decide) (by decide))
/-! ### drawn letters, words, numbers -/
def sp__law_size (K : PySem.W.Frag) : Sp := fun vs H Q _ => ∃ (g : Addr) (a b n : Nat), vs = [.ref g, .int (a : Nat), .int (b : Nat)] ∧ a ≤ b ∧ b ≤ 100 ∧ Gen H g n ∧ n ≤ 2 ^ 41 ∧
  ∀ (r : Nat) H', a ≤ r → r ≤ b → Xg g H H' → Gen H' g (n + 10) → Q (.int (r : Nat)) H'
theorem ok__law_size (T : Tx K mg) : FnOk P w K mg base CX0 3 T.a__law_size T.fd__law_size ["_law_generator_here", "_law_least", "_law_most"] (sp__law_size K) := by
  refine T.F__law_size.ok sc__law_size (fun vs H Q E h => ?_) (fun cdv A outer s H vs Q E hr h => ?_)
  · obtain ⟨_, _, _, _, rfl, _⟩ := h
    rfl
  · obtain ⟨g, a, b, n, rfl, ab, b1, gn, n1, q⟩ := h
    refine ⟨_, (pss_one (ps_ret (pe_op op_add (pv 1) (pe_call (ok__law_random T) (hr.mono (by decide)) (by rfl) T.g__law_random T.F__law_random.kp (b__law_random T) .nil pass0 (pa_cons (pv 0) (pa_cons (pe_op op_add (pe_op op_sub (pv 2) (pv 1)) pe_int) pa_nil)))))), ?_⟩
    refine ⟨_, rfl, _, rfl, _, rfl, _, rfl, _, _, rfl, rfl, _, 1, rfl, rfl, g, _, n, rfl, by omega, by omega, gn, by omega, fun r H1 r0 r1 x1 g1 => ?_⟩
    refine ⟨_, _, rfl, rfl, ?_⟩
    have em : (a : Int) + r = ((a + r.toNat : Nat) : Int) := by omega
    have := q (a + r.toNat) H1 (by omega) (by omega) x1 g1
    rw [← em] at this
    exact this
def sp__law_letters (K : PySem.W.Frag) : Sp := fun vs H Q _ => ∃ (g : Addr) (a b n : Nat), vs = [.ref g, .int (a : Nat), .int (b : Nat)] ∧ a ≤ b ∧ b ≤ 20 ∧ Gen H g n ∧ n ≤ 2 ^ 40 ∧
  ∀ (L : List Nat) H', Low L → L.Pairwise (· < ·) → a ≤ L.length → L.length ≤ b → Xg g H H' → Gen H' g (n + 10 + 10 * b) → Q (tx L) H'
theorem ok__law_letters (T : Tx K mg) : FnOk P w K mg base CX0 4 T.a__law_letters T.fd__law_letters ["_law_generator_here", "_law_least", "_law_most"] (sp__law_letters K) := by
  refine T.F__law_letters.ok sc__law_letters (fun vs H Q E h => ?_) (fun cdv A outer s H vs Q E hr h => ?_)
  · obtain ⟨_, _, _, _, rfl, _⟩ := h
    rfl
  · obtain ⟨g, a, b, n, rfl, ab, b1, gn, n1, q⟩ := h
    refine ⟨_, (pss_cons (ps_set (i := 3) sc__law_letters.nd rfl (by first | exact Or.inl rfl | exact Or.inr rfl) (pe_callTy (Rx.cr_listS rfl) (by rfl) T.n_list (by decide +kernel) (pa_cons pe_str pa_nil))) (pss_cons (ps_set (i := 4) sc__law_letters.nd rfl (by first | exact Or.inl rfl | exact Or.inr rfl) (pe_call (ok__law_size T) (hr.mono (by decide)) (by rfl) T.g__law_size T.F__law_size.kp (b__law_size T) .nil pass0 (pa_cons (pv 0) (pa_cons (pv 1) (pa_cons (pv 2) pa_nil))))) (pss_one (ps_ret (pe_join pe_str (pe_callB (Rx.cr_sortD hr.units) (by rfl) T.n_sorted (by decide +kernel) (pa_cons (pe_lc (own := [("_law_turn", 5)]) (g := (gName 5)) (tt := tYes) rfl sc__law_letters.nd (pi_range1 (by rfl) T.n_range (pa_cons (pv 4) pa_nil)) (blkOk_by (own := [("_law_turn", 5)]) (N := N__law_letters) (sc := defScope s__law_letters) (by decide +kernel)) (fun _ _ _ _ _ => (pg_name (i := 5) sc__law_letters.nd rfl (by first | exact Or.inl rfl | exact Or.inr rfl))) (fun _ _ _ _ _ => pts_nil) (fun _ _ _ _ _ => ((pe_bm PySem.F.plainAttrs_list PySem.F.slot_list_pop PySem.F.type_list_pop mt_popAt (pv 3) (pa_cons (pe_call (ok__law_random T) (hr.mono (by decide)) (by rfl) T.g__law_random T.F__law_random.kp (b__law_random T) .nil pass0 (pa_cons (pv 0) (pa_cons (pe_callB (call_len_seq : CallR _ _ (fun xs H Q => ∃ p ys, xs = [.ref p] ∧ (SqL K H p ys ∨ SqT K H p ys) ∧ Q (.int ys.length) H)) (by rfl) T.n_len (by decide +kernel) (pa_cons (pv 3) pa_nil)) pa_nil))) pa_nil)) : PE _ _ (tBM K "list" rPopAt _ _)))) pa_nil))))))), ?_⟩
    refine ⟨_, rfl, by decide, fun pl npl => ?_⟩
    have gpl : g ≠ pl := gn.ne npl
    have sg : Sx.sgs (Str.ofString "abcdefghijklmnopqrstuvwxyz") = ((List.range 26).map fun c => mk [97 + c]) := by decide +kernel
    rw [sg]
    have e0 : Ex H (upd H pl (.lst (((List.range 26).map fun c => mk [97 + c]).map V.str))) := ex_upd npl
    refine ⟨_, rfl, _, rfl, _, rfl, g, a, b, _, rfl, ab, by omega, gn.ex e0, by omega, fun m H1 m1 m4 x1 g1 => ?_⟩
    have x01 := (Xg.of (g := g) e0).trans x1
    have hpl1 := x1 pl _ gpl.symm upd_same
    refine ⟨⟨_, rfl⟩, _, rfl, (m : Nat), rfl, by omega, by omega, fun D nD => ?_⟩
    rw [Int.toNat_natCast]
    have nD0 : H D = none := x01.fresh g1.there nD
    have pD : pl ≠ D := ex_ne hpl1 nD
    have gD : g ≠ D := g1.ne nD
    refine lc_range (lo := 0) (n := m) (fun i H2 => ∃ rest t : List Nat, rest.length + i = 26 ∧ t.length = i ∧ (rest ++ t).Nodup ∧ Low rest ∧ Low t ∧ Xg g H H2 ∧ Gen H2 g (n + 10 + 10 * i) ∧ H2 pl = some (.lst ((rest.map fun c => mk [c]).map V.str)) ∧ H2 D = some (.lst ((t.map fun c => mk [c]).map V.str)))
      ⟨(List.range 26).map fun c => 97 + c, [], by simp, rfl, by decide, fun c hc => ?_, Low.nil, (x01.ex (ex_upd nD)), (g1.oth gD), by rw [upd_ne pD, hpl1, List.map_map, List.map_map, List.map_map]; rfl, upd_same⟩ (fun i H2 hi hp => ?_) (fun H2 hp => ?_)
    · obtain ⟨k, hk, rfl⟩ := List.mem_map.mp hc
      have := List.mem_range.mp hk
      omega
    · obtain ⟨rest, t, rl, tl, nd, lr, lt, xg, g2, hp2, hD⟩ := hp
      refine ⟨rfl, ?_⟩
      dsimp only [tYes]
      refine iteT ⟨_, rfl, .inl ⟨rfl, _, .inl (.inl hp2)⟩, _, rfl, _, rfl, pl, _, rfl, .inl (.inl (.inl hp2)), g, _, n + 10 + 10 * i, rfl, ?_, ?_, g2, by omega, fun r H3 r0 r1 xg3 gn3 => ?_⟩
      · rw [List.length_map, List.length_map]; omega
      · rw [List.length_map, List.length_map]; omega
      · rw [List.length_map, List.length_map] at r1
        obtain ⟨k, rfl⟩ := Int.eq_ofNat_of_zero_le r0
        have kl : k < rest.length := by omega
        have hp3 := xg3 pl _ gpl.symm hp2
        have hD3 := xg3 D _ gD.symm hD
        refine ⟨pl, _, _, k, .str (mk [rest[k]]), rfl, rfl, hp3, by omega, by omega, ?_, ?_, ?_⟩
        · rw [List.length_map, List.length_map]
          exact seqIndex_of (by omega) (by omega)
        · rw [List.getElem?_map, List.getElem?_map, List.getElem?_eq_getElem kl]
          rfl
        · have er : (((rest.map fun c => mk [c]).map V.str).eraseIdx k) = ((rest.eraseIdx k).map fun c => mk [c]).map V.str := by
            rw [map_erase, map_erase]
          rw [er]
          refine ⟨_, by rw [upd_ne pD.symm]; exact hD3, by rw [List.length_map, List.length_map, tl]; exact sz_lt (by omega), rest.eraseIdx k, t ++ [rest[k]], by rw [List.length_eraseIdx_of_lt kl]; omega, by rw [List.length_append, tl]; rfl, ?_, lr.sub fun c hc => List.mem_of_mem_eraseIdx hc, lt.app fun c hc => by rw [List.mem_singleton.mp hc]; exact lr _ (List.getElem_mem kl), ((xg.trans xg3).mut npl).mut nD0, ?_, ?_, ?_⟩
          · have p1 : (rest.eraseIdx k ++ (t ++ [rest[k]])).Perm (rest ++ t) := by
              refine (List.Perm.append_left _ List.perm_append_comm).trans ?_
              rw [← List.append_assoc]
              exact (erase_perm rest k kl).append_right t
            exact p1.nodup_iff.mpr nd
          · have e : n + 10 + 10 * (i + 1) = n + 10 + 10 * i + 10 := by omega
            rw [e]
            exact (gn3.oth gpl).oth gD
          · rw [upd_ne pD, upd_same]
          · rw [upd_same, List.map_append, List.map_append]
            rfl
    · obtain ⟨rest, t, rl, tl, nd, lr, lt, xg, g2, hp2, hD⟩ := hp
      have hD2 : H2 D = some (.lst ((t.map fun c => [c]).map tx)) := by rw [hD, List.map_map, List.map_map]; rfl
      refine ⟨D, _, t.map fun c => [c], tx, fun w => PyData.str (mk w), rfl, .inl (.inl hD2), fun b _ => .str _, Rx.alike_strs _, Rx.sortable_strs _, fun b _ => Nat.zero_le _, fun p np => ?_⟩
      obtain ⟨t2, ht2⟩ : ∃ t2 : List Nat, (t.map fun c => [c]).mergeSort (PySem.W.dataLe false fun w => PyData.str (mk w)) = t2.map fun c => [c] := by
        have : ∀ l : List (List Nat), (∀ w ∈ l, ∃ c, w = [c]) → ∃ t2 : List Nat, l = t2.map fun c => [c] := by
          intro l
          induction l with
          | nil => intro _; exact ⟨[], rfl⟩
          | cons w l ih =>
            intro h
            obtain ⟨t2, e⟩ := ih fun w hw => h w (List.mem_cons_of_mem _ hw)
            obtain ⟨c, e2⟩ := h w List.mem_cons_self
            exact ⟨c :: t2, by rw [e, e2]; rfl⟩
        refine this _ fun w hw => ?_
        obtain ⟨c, _, e⟩ := List.mem_map.mp ((List.mergeSort_perm _ _).mem_iff.mp hw)
        exact ⟨c, e.symm⟩
      have perm := List.mergeSort_perm (t.map fun c => [c]) (PySem.W.dataLe false fun w => PyData.str (mk w))
      have sorted := List.pairwise_mergeSort (le := PySem.W.dataLe false fun w : List Nat => PyData.str (mk w)) (fun a b c h h' => ?_) (fun a b => ?_) (t.map fun c => [c])
      rotate_left
      · rw [Rx.le_strs] at h h' ⊢
        exact decide_eq_true (List.le_trans (of_decide_eq_true h) (of_decide_eq_true h'))
      · rw [Rx.le_strs]
        show (decide (a ≤ b) || decide (b ≤ a)) = true
        rcases List.le_total a b with z | z
        · rw [decide_eq_true z]; rfl
        · rw [decide_eq_true z, Bool.or_true]
      rw [ht2] at perm sorted ⊢
      have l2 : t2.length = t.length := by
        have := perm.length_eq
        rw [List.length_map, List.length_map] at this
        exact this
      have m2 : ∀ c ∈ t2, c ∈ t := fun c hc => by
        obtain ⟨d, hd, e⟩ := List.mem_map.mp (perm.mem_iff.mp (List.mem_map_of_mem (f := fun c => [c]) hc))
        cases e
        exact hd
      have es : (t2.map fun c => [c]).map tx = (t2.map fun c => mk [c]).map V.str := by rw [List.map_map, List.map_map]; rfl
      rw [es]
      refine ⟨mk [], p, t2.map fun c => mk [c], rfl, rfl, .inl (.inl (.inl upd_same)), ?_, ?_⟩
      · rw [Bx.len_signs, List.length_map, mk_len]
        simp
        omega
      · rw [join_signs]
        have nd2 : t2.Nodup := by
          have p0 : (t2.map fun c => [c]).Nodup := perm.nodup_iff.mpr (List.pairwise_map.mpr ((List.nodup_append.mp nd).2.1.imp fun h z => h (by simpa using z)))
          exact (List.pairwise_map.mp p0).imp fun h z => h (by rw [z])
        have up2 : t2.Pairwise (· < ·) := by
          have le2 : t2.Pairwise (· ≤ ·) := (List.pairwise_map.mp sorted).imp fun {a b} h => by
            rw [Rx.le_strs] at h
            have h1 : ([a] : List Nat) ≤ [b] := of_decide_eq_true h
            apply Decidable.byContradiction
            intro z
            exact h1 (List.cons_lt_cons_iff.mpr (.inl (by omega)))
          exact (le2.and nd2).imp fun {a b} h => by
            have := h.1
            have := h.2
            omega
        exact q t2 _ (lt.sub m2) up2 (by omega) (by omega) (xg.ex (ex_upd np)) ((g2.ex (ex_upd np)).up (by omega))
theorem len_reps {u : List Nat} (k : Nat) : (List.replicate k u).flatten.length = k * u.length := by
  rw [List.length_flatten]
  simp
def sp__law_text (K : PySem.W.Frag) : Sp := fun vs H Q _ => ∃ (g : Addr) (L : List Nat) (a b n : Nat), vs = [.ref g, tx L, .int (a : Nat), .int (b : Nat)] ∧ 1 ≤ L.length ∧ L.length ≤ 1000 ∧ a ≤ b ∧ b ≤ 100 ∧ Gen H g n ∧ n ≤ 2 ^ 40 ∧
  ∀ (t : List Nat) H', a ≤ t.length → t.length ≤ b → (∀ c ∈ t, c ∈ L) → Xg g H H' → Gen H' g (n + 40 + 10 * b) → Q (tx t) H'
theorem ok__law_text (T : Tx K mg) : FnOk P w K mg base CX0 4 T.a__law_text T.fd__law_text ["_law_generator_here", "_law_letters_here", "_law_least", "_law_most"] (sp__law_text K) := by
  refine T.F__law_text.ok sc__law_text (fun vs H Q E h => ?_) (fun cdv A outer s H vs Q E hr h => ?_)
  · obtain ⟨_, _, _, _, _, rfl, _⟩ := h
    rfl
  · obtain ⟨g, L, a, b, n, rfl, l1, l2, ab, b1, gn, n1, q⟩ := h
    refine ⟨_, (pss_cons (ps_set (i := 4) sc__law_text.nd rfl (by first | exact Or.inl rfl | exact Or.inr rfl) (pe_call (ok__law_size T) (hr.mono (by decide)) (by rfl) T.g__law_size T.F__law_size.kp (b__law_size T) .nil pass0 (pa_cons (pv 0) (pa_cons (pv 2) (pa_cons (pv 3) pa_nil))))) (pss_cons (ps_set (i := 5) sc__law_text.nd rfl (by first | exact Or.inl rfl | exact Or.inr rfl) (pe_join pe_str (pe_lc (own := [("_law_turn", 6)]) (g := (gName 6)) (tt := tYes) rfl sc__law_text.nd (pi_range1 (by rfl) T.n_range (pa_cons (pv 4) pa_nil)) (blkOk_by (own := [("_law_turn", 6)]) (N := N__law_text) (sc := defScope s__law_text) (by decide +kernel)) (fun _ _ _ _ _ => (pg_name (i := 6) sc__law_text.nd rfl (by first | exact Or.inl rfl | exact Or.inr rfl))) (fun _ _ _ _ _ => pts_nil) (fun _ _ _ _ _ => (pe_ix ix_str (pv 1) (pe_call (ok__law_random T) (hr.mono (by decide)) (by rfl) T.g__law_random T.F__law_random.kp (b__law_random T) .nil pass0 (pa_cons (pv 0) (pa_cons (pe_callB call_len_str (by rfl) T.n_len (by decide +kernel) (pa_cons (pv 1) pa_nil)) pa_nil))) (fun _ _ => rfl)))))) (pss_cons (ps_if (PW.pt (pw_and (pt_cmpR op_ne (pv 5) pe_str (nomark _)) (pw_and1 (pt_cmpR op_eq (pe_call (ok__law_random T) (hr.mono (by decide)) (by rfl) T.g__law_random T.F__law_random.kp (b__law_random T) .nil pass0 (pa_cons (pv 0) (pa_cons pe_int pa_nil))) pe_int (nomark _))))) (pss_one (ps_ret (pe_slice sl_str (pe_op Bx.op_repS (pe_slice sl_str (pv 5) po_none (po_some (pe_call (ok__law_size T) (hr.mono (by decide)) (by rfl) T.g__law_size T.F__law_size.kp (b__law_size T) .nil pass0 (pa_cons (pv 0) (pa_cons pe_int (pa_cons pe_int pa_nil)))))) (pv 3)) po_none (po_some (pe_callB call_len_str (by rfl) T.n_len (by decide +kernel) (pa_cons (pv 5) pa_nil)))))) pss_nil) (pss_one (ps_ret (pv 5)))))), ?_⟩
    refine ⟨_, rfl, _, rfl, _, rfl, g, a, b, n, rfl, ab, b1, gn, by omega, fun m H1 m1 m2 x1 g1 => ?_⟩
    refine ⟨⟨_, rfl⟩, _, rfl, (m : Nat), rfl, by omega, by omega, fun D nD => ?_⟩
    rw [Int.toNat_natCast]
    have gD : g ≠ D := g1.ne nD
    have hD0 : H D = none := x1.fresh g1.there nD
    refine lc_range (lo := 0) (n := m) (fun i H2 => ∃ t : List Nat, t.length = i ∧ (∀ c ∈ t, c ∈ L) ∧ Xg g H H2 ∧ Gen H2 g (n + 10 + 10 * i) ∧ H2 D = some (.lst ((t.map fun c => mk [c]).map V.str))) ⟨[], rfl, by simp, x1.ex (Ex.new nD), g1.oth gD, upd_same⟩ (fun i H2 hi hp => ?_) (fun H2 hp => ?_)
    · obtain ⟨t, tl, tm, xg, gn2, hD⟩ := hp
      refine ⟨rfl, ?_⟩
      refine ⟨_, rfl, _, rfl, _, rfl, mk L, rfl, by rw [mk_len]; exact sz_of (by omega), g, _, n + 10 + 10 * i, rfl, by rw [mk_len]; omega, by rw [mk_len]; omega, gn2, by omega, fun r H3 r0 r1 xg3 gn3 => ?_⟩
      rw [mk_len] at r1
      obtain ⟨k, rfl⟩ := Int.eq_ofNat_of_zero_le r0
      have rl : k < L.length := by omega
      refine ⟨mk L, _, L[k], rfl, rfl, by rw [mk_len]; exact sz_of (by omega), atI_nat (by rw [mk_list]; exact List.getElem?_eq_getElem rl), ?_⟩
      have hD3 := xg3 D _ gD.symm hD
      refine ⟨_, hD3, by rw [List.length_map, List.length_map, tl]; exact sz_lt (by omega), t ++ [L[k]], by rw [List.length_append, tl]; rfl, fun c hc => ?_, (xg.trans xg3).mut hD0, ?_, ?_⟩
      · rcases List.mem_append.mp hc with e | e
        · exact tm c e
        · rw [List.mem_singleton] at e
          rw [e]
          exact List.getElem_mem rl
      · have e : n + 10 + 10 * (i + 1) = n + 10 + 10 * i + 10 := by omega
        rw [e]
        exact gn3.oth gD
      · rw [upd_same, List.map_append, List.map_append]
        rfl
    · obtain ⟨t, tl, tm, xg, gn2, hD⟩ := hp
      refine ⟨mk [], D, t.map fun c => mk [c], rfl, rfl, .inl (.inl (.inl hD)), ?_, ?_⟩
      · rw [Bx.len_signs, List.length_map, mk_len]
        simp
        omega
      · rw [join_signs]
        refine ⟨_, rfl, rfl, _, rfl, ?_⟩
        by_cases t0 : t = []
        · subst t0
          exact iteF ⟨_, rfl, q [] H2 (by omega) (by omega) tm xg (gn2.up (by omega))⟩
        · have ne : (!decide (tx t = V.str (Str.ofString ""))) = true := by
            rw [decide_eq_false (fun z => t0 ((tx_inj (l := t) (m := [])).mp (z.trans (by rfl))))]
            rfl
          have t1 := List.length_pos_iff.mpr t0
          refine ite2 (fun _ => ?_) (fun z => absurd ne z)
          refine ⟨_, rfl, g, 4, _, rfl, by decide, by decide, gn2, by omega, fun r H3 r0 r1 x3 g3 => ⟨rfl, _, rfl, ite2 (fun h => ?_) (fun h => ?_)⟩⟩
          · refine ⟨_, rfl, _, rfl, g, 1, 3, _, rfl, by decide, by decide, g3, by omega, fun k H4 k1 k2 x4 g4 => ?_⟩
            refine ⟨k, rfl, mk t, rfl, by rw [mk_len]; exact sz_of (by omega), ?_⟩
            rw [cut_to]
            have ul : (t.take k).length = min k t.length := List.length_take
            have kb : (t.take k).length * b ≤ 300 := by
              have h3 : (t.take k).length ≤ 3 := by omega
              have := Nat.mul_le_mul h3 b1
              omega
            refine ⟨_, rfl, t.take k, b, rfl, rfl, by omega, by omega, ?_⟩
            have fl : (List.replicate b (t.take k)).flatten.length = b * (t.take k).length := len_reps b
            have fl3 : (List.replicate b (t.take k)).flatten.length ≤ 300 := by rw [fl, Nat.mul_comm]; exact kb
            refine ⟨_, rfl, mk t, rfl, by rw [mk_len]; exact sz_of (by omega), ((mk t).length : Int), rfl, mk _, rfl, by rw [mk_len]; exact sz_of (by omega), ?_⟩
            rw [mk_len, cut_to]
            have lo : t.length ≤ (List.replicate b (t.take k)).flatten.length := by
              rw [fl]
              have h1 : 1 ≤ (t.take k).length := by omega
              have := Nat.mul_le_mul_left b h1
              omega
            have tl2 : ((List.replicate b (t.take k)).flatten.take t.length).length = t.length := by rw [List.length_take]; omega
            refine q _ H4 (by omega) (by omega) (fun c hc => ?_) ((xg.trans x3).trans x4) (g4.up (by omega))
            have hc1 := List.mem_of_mem_take hc
            obtain ⟨x, hx, hcx⟩ := List.mem_flatten.mp hc1
            rw [List.eq_of_mem_replicate hx] at hcx
            exact tm c (List.mem_of_mem_take hcx)
          · exact ⟨_, rfl, q t H3 (by omega) (by omega) tm (xg.trans x3) (g3.up (by omega))⟩
end
end K78
set_option Elab.async false
set_option linter.all false
set_option maxRecDepth 100000
set_option maxHeartbeats 8000000
namespace K78
open PySem PySem.Spec PyProof.Rows L2 Evl Bx
section
variable {P : Program} {w : World} {K : PySem.W.Frag} {mg : Str → Option Value} {base : Heap}
abbrev vn (ns : List Nat) : List V := ns.map fun n => V.int (n : Nat)
theorem exn {H H' : Hp} {p : Addr} (e : Ex H H') (h : H' p = none) : H p = none := by
  cases q : H p with
  | none => rfl
  | some o => rw [e p o q] at h; cases h
def sp__front_ranks (K : PySem.W.Frag) : Sp := fun vs H Q _ => ∃ (t : List Nat), vs = [tx t] ∧ t.length ≤ 900 ∧ ∀ p ns H', Ex H H' → H p = none → Rk.Fr t ns → H' p = some (.lst (vn ns)) → Q (.ref p) H'
theorem ok__front_ranks (T : Tx K mg) : FnOk P w K mg base CX0 1 T.a__front_ranks T.fd__front_ranks ["text"] (sp__front_ranks K) := by
  refine T.F__front_ranks.ok sc__front_ranks (fun vs H Q E h => ?_) (fun cdv A outer s H vs Q E hr h => ?_)
  · obtain ⟨_, rfl, _⟩ := h
    rfl
  · obtain ⟨t, rfl, tl, q⟩ := h
    refine ⟨_, (pss_cons (ps_set (i := 1) sc__front_ranks.nd rfl (by first | exact Or.inl rfl | exact Or.inr rfl) (pe_lst pa_nil)) (pss_cons (ps_set (i := 2) sc__front_ranks.nd rfl (by first | exact Or.inl rfl | exact Or.inr rfl) pe_dnewK) (pss_cons (ps_for PassesOwn.never rfl (Rx.pi_enumS (by rfl) T.n_enumerate (pa_cons (pv 0) pa_nil)) (pg_tup (by rfl) (pgs_cons (pg_name (i := 3) sc__front_ranks.nd rfl (by first | exact Or.inl rfl | exact Or.inr rfl)) (pgs_cons (pg_name (i := 4) sc__front_ranks.nd rfl (by first | exact Or.inl rfl | exact Or.inr rfl)) pgs_nil))) (pss_cons (ps_expr (pe_bm PySem.F.plainAttrs_list PySem.F.slot_list_append PySem.F.type_list_append mt_append (pv 1) (pa_cons (pe_ifExp (pt_cmp (pc_din (hu_of hr) (pv 4) (pv 2))) (pe_op op_add pe_int (pe_callB (cr_min rfl) (by rfl) T.n_min (by decide +kernel) (pa_cons (pe_slice sl_list (pv 1) (po_some (pe_dget (hu_of hr) (pv 2) (pv 4) (fun _ _ => rfl))) po_none) pa_nil))) pe_int) pa_nil))) (pss_one (ps_dput (hu_of hr) (pv 2) (pv 4) (pv 3) rfl)))) (pss_one (ps_ret (pv 1)))))), ?_⟩
    refine ⟨Nat.zero_le _, fun pf npf => ?_⟩
    have x1 := ex_upd (o := .lst []) npf
    refine fun pd npd => ?_
    have fd : pf ≠ pd := ex_ne upd_same npd
    have npd0 := exn x1 npd
    have x2 := x1.trans (ex_upd (o := .dK []) npd)
    dsimp only [tNext, tSeq, tAsg, tC, gName]
    show tFor (Rx.iEnumS _) (gTup K 2 (gCons (gName 3) (gCons (gName 4) gNil))) _ _ [some (tx t), some (.ref pf), some (.ref pd), none, none] _
    refine Rx.forEnumS (l := t) (fun H4 e4 Q' q' => ⟨_, rfl, q' H4 (Ex.refl _)⟩) (fun i σ' H2 => ∃ (ns : List Nat) (kvs : List (Key × V)) (y3 y4 : Option V), σ' = [some (tx t), some (.ref pf), some (.ref pd), y3, y4] ∧ Ex H H2 ∧ Rk.Fr (t.take i) ns ∧ H2 pf = some (.lst (vn ns)) ∧ H2 pd = some (.dK kvs) ∧ kvs.length ≤ i ∧
        (∀ c, valV kvs (.inr (mk [c])) = none → c ∉ t.take i) ∧ ∀ c v, valV kvs (.inr (mk [c])) = some v → ∃ q s, t.take i = q ++ c :: s ∧ c ∉ s ∧ v = V.int ((q.length : Nat) : Int))
      (fun H1 e1 => ⟨[], [], _, _, rfl, x2.trans e1, Rk.Fr.nil, e1 _ _ (by rw [upd_ne fd, upd_same]; rfl), e1 _ _ upd_same, Nat.zero_le _, (fun c _ h => by cases h), (fun c v h => by cases h)⟩)
      (fun i σ' H1 H2 e ⟨ns, kvs, y3, y4, h1, h2, h3, h4, h5, h6⟩ => ⟨ns, kvs, y3, y4, h1, h2.trans e, h3, e _ _ h4, e _ _ h5, h6⟩) (fun i c σ' H2 hc hp => ?_) (fun σ' H2 hp => ?_)
    · obtain ⟨ns, kvs, y3, y4, rfl, e2, fr, hpf, hpd, kl, hn, hs⟩ := hp
      have il : i < t.length := (List.getElem?_eq_some_iff.mp hc).1
      have tk : t.take (i + 1) = t.take i ++ [c] := by rw [List.take_add_one, hc]; rfl
      have ti : (t.take i).length = i := by rw [List.length_take]; omega
      rw [tk]
      have nl := fr.len
      rw [ti] at nl
      generalize t.take i = u at fr hn hs ti
      refine ⟨_, rfl, .inl ⟨rfl, _, .inl (.inl hpf)⟩, ?_⟩
      refine (?_ : ∀ Q' : List V → Hp → Prop, (∀ (H3 : Hp) (r : Nat), Ex H2 H3 → Rk.Rank u c r → Q' [V.int ((r : Nat) : Int)] H3) → tCons (tIf (tB (tDIn (tVar 4) (tVar 2))) _ _) tNil _ H2 Q') _ (fun H3 r e3 rk => ?_)
      · intro Q' q'
        cases h : valV kvs (.inr (mk [c])) with
        | none =>
          refine ⟨_, rfl, _, rfl, pd, _, rfl, DGet.k (k := .inr (mk [c])) hpd, _, rfl, ?_⟩
          rw [h]
          exact iteF (q' H2 1 (Ex.refl _) (Rk.rank_one (hn c h)))
        | some v =>
          obtain ⟨a, s, ea, cs, rfl⟩ := hs c v h
          refine ⟨_, rfl, _, rfl, pd, _, rfl, DGet.k (k := .inr (mk [c])) hpd, _, rfl, ?_⟩
          rw [h]
          refine iteT ⟨_, rfl, _, rfl, _, rfl, pd, _, rfl, by have := DGet.k (k := .inr (mk [c])) hpd; rw [h] at this; exact this, _, rfl, pf, _, rfl, .inl (.inl hpf), fun p np => ?_⟩
          have ec : cutV (vn ns) (some ((a.length : Nat) : Int)) none = (((ns.drop a.length).map fun n => ((n : Nat) : Int))).map V.int := by
            rw [Cv.cut_from, List.map_map, List.map_drop]
            rfl
          rw [ec]
          have dl : 0 < ((ns.drop a.length).map fun n => ((n : Nat) : Int)).length := by
            rw [List.length_map, List.length_drop, nl, ← ti, ea, List.length_append, List.length_cons]
            omega
          refine ⟨p, _, rfl, .inl (.inl upd_same), dl, fun m hm lo => ?_⟩
          obtain ⟨k, hk, rfl⟩ := List.mem_map.mp hm
          rw [ea] at fr
          have r := Rk.fr_next fr cs hk (fun x hx => by
            have := lo _ (List.mem_map_of_mem (f := fun n => ((n : Nat) : Int)) hx)
            omega)
          rw [← ea] at r
          exact ⟨_, _, rfl, rfl, by have := q' _ _ (ex_upd (o := .lst (((ns.drop a.length).map fun n => ((n : Nat) : Int)).map V.int)) np) r; rw [Int.natCast_add] at this; exact this⟩
      · have hpf3 := e3 _ _ hpf
        have hpd3 := e3 _ _ hpd
        have npf3 : pf ≠ pd := fun z => by rw [z, hpd] at hpf; cases hpf
        refine ⟨pf, _, _, rfl, rfl, hpf3, by rw [List.length_map, nl]; exact sz_lt (by omega), ?_⟩
        refine ⟨_, rfl, _, rfl, _, rfl, pd, _, rfl, DPut.k (k := .inr (mk [c])) (by rw [upd_ne npf3.symm]; exact hpd3) (sz_lt (by omega)), ?_⟩
        refine ⟨ns ++ [r], putK kvs (.inr (mk [c])) (V.int ((i : Nat) : Int)), _, _, rfl, ((e2.trans e3).mut npf).mut npd0, fr.snoc rk, ?_, upd_same, ?_, ?_, ?_⟩
        · rw [upd_ne npf3, upd_same]
          show _ = some (HO.lst (List.map _ (ns ++ [r])))
          rw [List.map_append]
          rfl
        · have := length_putK kvs (.inr (mk [c])) (V.int ((i : Nat) : Int))
          omega
        · intro b h z
          rw [valV_put] at h
          by_cases y : (Sum.inr (mk [b]) : Key) = Sum.inr (mk [c])
          · rw [if_pos y] at h
            cases h
          · rw [if_neg y] at h
            have bc : b ≠ c := fun e => y (by rw [e])
            rcases List.mem_append.mp z with z | z
            · exact hn b h z
            · exact bc (List.mem_singleton.mp z)
        · intro b v h
          rw [valV_put] at h
          by_cases y : (Sum.inr (mk [b]) : Key) = Sum.inr (mk [c])
          · rw [if_pos y] at h
            cases h
            have : b = c := by simpa using (Nd.key_inj (u := [b]) (w := [c])).mp y
            subst this
            exact ⟨u, [], rfl, (fun z => by cases z), by rw [ti]⟩
          · rw [if_neg y] at h
            have bc : b ≠ c := fun e => y (by rw [e])
            obtain ⟨a, s, ea, cs, ev⟩ := hs b v h
            refine ⟨a, s ++ [c], by rw [ea, List.append_assoc]; rfl, fun z => ?_, ev⟩
            rcases List.mem_append.mp z with z | z
            · exact cs z
            · exact bc (List.mem_singleton.mp z)
    · obtain ⟨ns, kvs, y3, y4, rfl, e2, fr, hpf, hpd, kl, hn, hs⟩ := hp
      rw [List.take_length] at fr
      exact ⟨_, rfl, q pf ns H2 e2 npf fr hpf⟩
def sp__ranks (K : PySem.W.Frag) : Sp := fun vs H Q _ => ∃ (t : List Nat), vs = [tx t] ∧ t.length ≤ 900 ∧ ∀ p ps H', Ex H H' → H p = none → Rk.Pr t ps → Rk.PL K H' p ps → Q (.ref p) H'
theorem ok__ranks (T : Tx K mg) : FnOk P w K mg base CX0 2 T.a__ranks T.fd__ranks ["text"] (sp__ranks K) := by
  refine T.F__ranks.ok sc__ranks (fun vs H Q E h => ?_) (fun cdv A outer s H vs Q E hr h => ?_)
  · obtain ⟨_, rfl, _⟩ := h
    rfl
  · obtain ⟨t, rfl, tl, q⟩ := h
    refine ⟨_, (pss_one (ps_ret (Zl.pe_listZip rfl (by rfl) T.n_list (by rfl) (by rfl) T.n_zip (pa_cons (pe_call (ok__front_ranks T) (hr.mono (by decide)) (by rfl) T.g__front_ranks T.F__front_ranks.kp (b__front_ranks T) .nil pass0 (pa_cons (pv 0) pa_nil)) (pa_cons (pe_revL (pe_call (ok__front_ranks T) (hr.mono (by decide)) (by rfl) T.g__front_ranks T.F__front_ranks.kp (b__front_ranks T) .nil pass0 (pa_cons (Rx.pe_revS (pv 0) (po_some (pe_un un_neg pe_int))) pa_nil))) pa_nil))))), ?_⟩
    refine ⟨_, rfl, t, rfl, tl, fun p1 xs H1 e1 n1 f1 h1 => ?_⟩
    refine ⟨_, rfl, _, rfl, _, rfl, mk t, rfl, rfl, by rw [mk_len]; omega, ?_⟩
    rw [turned_mk]
    refine ⟨t.reverse, rfl, by rw [List.length_reverse]; exact tl, fun p2 ys H2 e2 n2 f2 h2 => ?_⟩
    refine ⟨p2, _, rfl, .inl (.inl h2), fun p3 n3 => ?_⟩
    have e3 := e2.trans (ex_upd (o := .lst (vn ys).reverse) n3)
    refine ⟨p1, p3, _, _, rfl, .inl (.inl (e3 _ _ h1)), .inl (.inl upd_same), ?_, fun H' p ts e4 np hp tl2 ht => ?_⟩
    · rw [List.length_reverse, List.length_map, List.length_map, f1.len, f2.len, List.length_reverse]
    have n0 : H p = none := exn (e1.trans e3) np
    refine q p (xs.zip ys.reverse) H' ((e1.trans e3).trans e4) n0 ⟨xs, ys, f1, f2, rfl⟩ ⟨_, hp, ?_⟩
    rw [List.length_map] at tl2
    have el : ts.length = (xs.zip ys.reverse).length := by rw [List.length_zip, List.length_reverse, tl2, f2.len, f1.len, List.length_reverse, Nat.min_self]
    have key : ∀ (ts : List Addr) (ps : List (Nat × Nat)), ts.length = ps.length → (∀ (j : Nat) (a : Addr) (e : Nat × Nat), ts[j]? = some a → ps[j]? = some e → H' a = some (.tup (Rk.fP e))) → Nd.TW K H' Rk.fP (ts.map V.ref) ps := by
      intro ts
      induction ts with
      | nil => intro ps l _; cases ps with | nil => trivial | cons _ _ => cases l
      | cons a ts ih =>
        intro ps l h
        cases ps with
        | nil => cases l
        | cons e ps => exact ⟨⟨a, rfl, .inl (.inl (h 0 a e rfl rfl))⟩, ih ps (Nat.succ.inj l) fun j b f hb hf => h (j + 1) b f hb hf⟩
    refine key ts _ el fun j a e ha he => ?_
    obtain ⟨x, y, hx, hy, hh⟩ := ht j a ha
    rw [List.getElem?_zip_eq_some] at he
    rw [List.getElem?_map, he.1] at hx
    rw [← List.map_reverse, List.getElem?_map, he.2] at hy
    cases hx
    cases hy
    exact hh
def sp_ranks (K : PySem.W.Frag) : Sp := fun vs H Q _ => ∃ (t : List Nat), vs = [tx t] ∧ Low t ∧ t.length ≤ 900 ∧ ∀ p ps H', Ex H H' → H p = none → Rk.Pr t ps → Rk.PL K H' p ps → Q (.ref p) H'
theorem ok_ranks (T : Tx K mg) : FnOk P w K mg base CX0 3 T.a_ranks T.fd_ranks ["text"] (sp_ranks K) := by
  refine T.F_ranks.ok sc_ranks (fun vs H Q E h => ?_) (fun cdv A outer s H vs Q E hr h => ?_)
  · obtain ⟨_, rfl, _⟩ := h
    rfl
  · obtain ⟨t, rfl, lo, tl, q⟩ := h
    refine ⟨_, (pss_cons (ps_expr (pe_call (ok_need_text T) (hr.mono (by decide)) (by rfl) T.g_need_text T.F_need_text.kp (b_need_text T) .nil pass0 (pa_cons (pv 0) pa_nil))) (pss_one (ps_ret (pe_call (ok__ranks T) (hr.mono (by decide)) (by rfl) T.g__ranks T.F__ranks.kp (b__ranks T) .nil pass0 (pa_cons (pv 0) pa_nil))))), ?_⟩
    exact ⟨_, rfl, t, rfl, lo, _, rfl, t, rfl, tl, fun p ps H' e n pr pl => q p ps H' e n pr pl⟩
theorem go_take {d : Nat} {ps : List (Nat × Nat)} {i : Nat} {e : Nat × Nat} (he : ps[i]? = some e) :
    (List.range (i + 1)).filter (fun j => decide (d + 1 < (ps.getD j (0, 0)).1 + (ps.getD j (0, 0)).2)) = (List.range i).filter (fun j => decide (d + 1 < (ps.getD j (0, 0)).1 + (ps.getD j (0, 0)).2)) ++ if d + 1 < e.1 + e.2 then [i] else [] := by
  have ed : ps.getD i (0, 0) = e := by rw [List.getD_eq_getElem?_getD, he]; rfl
  rw [List.range_succ, List.filter_append]
  congr 1
  by_cases h : d + 1 < e.1 + e.2
  · rw [if_pos h, List.filter_cons_of_pos (by rw [ed]; exact decide_eq_true h)]
    rfl
  · rw [if_neg h, List.filter_cons_of_neg (by rw [ed]; simpa using h)]
    rfl
def sp__going (K : PySem.W.Frag) : Sp := fun vs H Q _ => ∃ (d : Nat) (t : List Nat), vs = [.int (d : Nat), tx t] ∧ t.length ≤ 900 ∧ ∀ p ps H', Ex H H' → H p = none → Rk.Pr t ps → H' p = some (.lst (vn (Rk.go d ps))) → Q (.ref p) H'
theorem ok__going (T : Tx K mg) : FnOk P w K mg base CX0 3 T.a__going T.fd__going ["depth", "text"] (sp__going K) := by
  refine T.F__going.ok sc__going (fun vs H Q E h => ?_) (fun cdv A outer s H vs Q E hr h => ?_)
  · obtain ⟨_, _, rfl, _⟩ := h
    rfl
  · obtain ⟨d, t, rfl, tl, q⟩ := h
    refine ⟨_, (pss_one (ps_ret (pe_lc (own := [("place", 2), ("front", 3), ("back", 4)]) (g := (gTup K 2 (gCons (gName 2) (gCons (gTup K 2 (gCons (gName 3) (gCons (gName 4) gNil))) gNil))))  rfl sc__going.nd (pi_enum (by rfl) T.n_enumerate (pa_cons (pe_call (ok__ranks T) (hr.mono (by decide)) (by rfl) T.g__ranks T.F__ranks.kp (b__ranks T) .nil pass0 (pa_cons (pv 1) pa_nil)) pa_nil)) (blkOk_by (own := [("place", 2), ("front", 3), ("back", 4)]) (N := N__going) (sc := defScope s__going) (by decide +kernel)) (fun _ _ _ _ _ => (pg_tup (by rfl) (pgs_cons (pg_name (i := 2) sc__going.nd rfl (by first | exact Or.inl rfl | exact Or.inr rfl)) (pgs_cons (pg_tup (by rfl) (pgs_cons (pg_name (i := 3) sc__going.nd rfl (by first | exact Or.inl rfl | exact Or.inr rfl)) (pgs_cons (pg_name (i := 4) sc__going.nd rfl (by first | exact Or.inl rfl | exact Or.inr rfl)) pgs_nil))) pgs_nil)))) (fun _ _ _ _ _ => (pts_one (pt_cmpR op_gt (pe_op op_add (pv 3) (pv 4)) (pe_op op_add (pv 0) pe_int) (nomark _)))) (fun _ _ _ _ _ => (pv 2))))), ?_⟩
    refine ⟨_, rfl, t, rfl, tl, fun p1 ps H1 e1 n1 pr ⟨vs, hv, tw⟩ => ?_⟩
    have vl := tw.len
    have pl := pr.len
    refine ⟨p1, vs, rfl, .inl (.inl hv), fun D nD => ?_⟩
    refine lc_it (walk_enum (K := K) (a := p1) (xs := vs)) (fun i H' => Ex H1 H' ∧ H' D = some (.lst (vn ((List.range i).filter fun j => decide (d + 1 < (ps.getD j (0, 0)).1 + (ps.getD j (0, 0)).2))))) ⟨ex_upd nD, upd_same⟩ (fun i H' _ h => .inl (.inl (h.1 _ _ hv))) (fun i x Ha Hb hi hp y => ?_) (fun Ha hp => ?_)
    · obtain ⟨T1, v1, v2, rfl, nT, rfl, ev1, ev2⟩ := y
      obtain ⟨ea, hD⟩ := hp
      cases ev1
      obtain ⟨e, qa, he, rfl, ht⟩ := tw.at ev2
      have T1D : T1 ≠ D := fun z => by rw [z, hD] at nT; cases nT
      have ht2 : SqT K (upd Ha T1 (.tup [V.int ((i : Nat) : Int), V.ref qa])) qa (Rk.fP e) := ex_t (ex_upd nT) (ex_t ea ht)
      refine ⟨T1, _, rfl, .inl (.inl upd_same), rfl, _, _, rfl, _, _, rfl, qa, _, rfl, ht2, rfl, _, _, rfl, _, _, rfl, rfl, rfl, ?_⟩
      refine ⟨rfl, _, rfl, _, rfl, _, _, rfl, rfl, _, rfl, _, 1, rfl, rfl, _, _, rfl, rfl, _, rfl, ?_⟩
      rw [go_take he]
      have hD2 : upd Ha T1 (.tup [V.int ((i : Nat) : Int), V.ref qa]) D = some (HO.lst (vn ((List.range i).filter fun j => decide (d + 1 < (ps.getD j (0, 0)).1 + (ps.getD j (0, 0)).2)))) := by rw [upd_ne T1D.symm]; exact hD
      have ea2 := ea.trans (ex_upd (o := .tup [V.int ((i : Nat) : Int), V.ref qa]) nT)
      by_cases h : d + 1 < e.1 + e.2
      · rw [if_pos h]
        refine ite2 (fun _ => ?_) (fun z => absurd (decide_eq_true (show ((d : Nat) : Int) + 1 < (e.1 : Nat) + (e.2 : Nat) by omega)) z)
        refine ⟨_, rfl, _, hD2, ?_, ea2.mut nD, ?_⟩
        · have := List.length_filter_le (fun j => decide (d + 1 < (ps.getD j (0, 0)).1 + (ps.getD j (0, 0)).2)) (List.range i)
          rw [List.length_range] at this
          rw [List.length_map]
          exact sz_lt (by omega)
        · rw [upd_same]
          show _ = some (HO.lst (List.map _ (_ ++ [i])))
          rw [List.map_append]
          rfl
      · rw [if_neg h, List.append_nil]
        refine ite2 (fun z => ?_) (fun _ => ⟨ea2, hD2⟩)
        have := of_decide_eq_true z
        omega
    · obtain ⟨ea, hD⟩ := hp
      rw [vl] at hD
      exact q D ps Ha (e1.trans ea) (exn e1 nD) pr hD
def sp_can_go (K : PySem.W.Frag) : Sp := fun vs H Q _ => ∃ (d : Nat) (t : List Nat), vs = [.int (d : Nat), tx t] ∧ Low t ∧ t.length ≤ 900 ∧ ∀ p ps H', Ex H H' → H p = none → Rk.Pr t ps → H' p = some (.lst (vn (Rk.go d ps))) → Q (.ref p) H'
theorem ok_can_go (T : Tx K mg) : FnOk P w K mg base CX0 4 T.a_can_go T.fd_can_go ["depth", "text"] (sp_can_go K) := by
  refine T.F_can_go.ok sc_can_go (fun vs H Q E h => ?_) (fun cdv A outer s H vs Q E hr h => ?_)
  · obtain ⟨_, _, rfl, _⟩ := h
    rfl
  · obtain ⟨d, t, rfl, lo, tl, q⟩ := h
    refine ⟨_, (pss_cons (ps_expr (pe_call (ok_need_depth T) (hr.mono (by decide)) (by rfl) T.g_need_depth T.F_need_depth.kp (b_need_depth T) .nil pass0 (pa_cons (pv 0) pa_nil))) (pss_cons (ps_expr (pe_call (ok_need_text T) (hr.mono (by decide)) (by rfl) T.g_need_text T.F_need_text.kp (b_need_text T) .nil pass0 (pa_cons (pv 1) pa_nil))) (pss_one (ps_ret (pe_call (ok__going T) (hr.mono (by decide)) (by rfl) T.g__going T.F__going.kp (b__going T) .nil pass0 (pa_cons (pv 0) (pa_cons (pv 1) pa_nil))))))), ?_⟩
    exact ⟨_, rfl, d, rfl, _, rfl, t, rfl, lo, _, rfl, _, rfl, d, t, rfl, tl, fun p ps H' e n pr hp => q p ps H' e n pr hp⟩
end
end K78
set_option Elab.async false
set_option linter.all false
set_option maxRecDepth 100000
set_option maxHeartbeats 8000000
namespace K78
open PySem PySem.Spec PyProof.Rows L2 Evl Bx
section
variable {P : Program} {w : World} {K : PySem.W.Frag} {mg : Str → Option Value} {base : Heap}
theorem cut_mid (l : List Nat) {i j : Nat} (h : i ≤ l.length) : cutS (mk l) (some (i : Int)) (some (j : Int)) = mk ((l.drop i).take (j - i)) := by
  rw [cut_mk, ix_nat, ix_nat, Nat.min_eq_left h]
  congr 1
  by_cases q : j ≤ l.length
  · rw [Nat.min_eq_left q]
  · rw [Nat.min_eq_right (by omega), List.take_of_length_le (by rw [List.length_drop]; omega), List.take_of_length_le (by rw [List.length_drop]; omega)]
def sp__law_is_read (K : PySem.W.Frag) : Sp := fun vs H Q _ => ∃ (u t : List Nat), vs = [tx u, tx t] ∧ u.length ≤ 1000 ∧ t.length ≤ 1000 ∧ ∀ H', Ex H H' → Q (.bl (Ar.sub u t)) H'
theorem ok__law_is_read (T : Tx K mg) : FnOk P w K mg base CX0 1 T.a__law_is_read T.fd__law_is_read ["_law_word", "_law_text_here"] (sp__law_is_read K) := by
  refine T.F__law_is_read.ok sc__law_is_read (fun vs H Q E h => ?_) (fun cdv A outer s H vs Q E hr h => ?_)
  · obtain ⟨_, _, rfl, _⟩ := h
    rfl
  · obtain ⟨u, t, rfl, l1, l2, q⟩ := h
    refine ⟨_, (pss_cons (ps_set (i := 2) sc__law_is_read.nd rfl (by first | exact Or.inl rfl | exact Or.inr rfl) pe_int) (pss_cons (ps_for PassesOwn.never rfl (pi_str (pv 1)) (pg_name (i := 3) sc__law_is_read.nd rfl (by first | exact Or.inl rfl | exact Or.inr rfl)) (pss_one (ps_if (pt_cmpR op_eq (pe_slice sl_str (pv 0) (po_some (pv 2)) (po_some (pe_op op_add (pv 2) pe_int))) (pv 3) (nomark _)) (pss_one (ps_set (i := 2) sc__law_is_read.nd rfl (by first | exact Or.inl rfl | exact Or.inr rfl) (pe_op op_add (pv 2) pe_int))) pss_nil))) (pss_one (ps_ret (pe_cmpR op_eq (pv 2) (pe_callB call_len_str (by rfl) T.n_len (by decide +kernel) (pa_cons (pv 0) pa_nil)) (nomark _)))))), ?_⟩
    refine forS (l := t) (ev_var rfl) (fun i σ' H' => ∃ (k : Nat) (y : Option V), σ' = [some (tx u), some (tx t), some (.int (k : Nat)), y] ∧ k ≤ u.length ∧ Ar.sub (u.drop k) (t.drop i) = Ar.sub u t ∧ Ex H H') (fun H1 e1 => ⟨0, _, rfl, Nat.zero_le _, rfl, e1⟩) (fun i c σ' H' hc hp => ?_) (fun σ' H' hp => ?_)
    · obtain ⟨k, y, rfl, kl, sb, e⟩ := hp
      have il : i < t.length := (List.getElem?_eq_some_iff.mp hc).1
      have td : t.drop i = c :: t.drop (i + 1) := by
        rw [List.drop_eq_getElem_cons il]
        congr 1
        exact Option.some.inj ((List.getElem?_eq_getElem il).symm.trans hc)
      rw [td] at sb
      refine ⟨_, rfl, _, rfl, _, rfl, _, rfl, _, _, rfl, rfl, _, rfl, mk u, rfl, by rw [mk_len]; exact sz_of (by omega), ?_⟩
      rw [show (k : Int) + 1 = ((k + 1 : Nat) : Int) from rfl, cut_mid u kl, Nat.add_sub_cancel_left]
      refine ⟨_, rfl, rfl, _, rfl, ?_⟩
      by_cases kz : k = u.length
      · have ud : u.drop k = [] := List.drop_of_length_le (by omega)
        rw [ud] at sb ⊢
        have ne : decide (V.str (mk (([] : List Nat).take 1)) = tx [c]) = false := decide_eq_false fun z => by
          have := (tx_inj (l := []) (m := [c])).mp z
          cases this
        refine ite2 (fun h => absurd (ne.symm.trans h) (by decide)) (fun _ => ⟨k, _, rfl, kl, ?_, e⟩)
        rw [ud, Ar.sub_nil]
        rw [Ar.sub_nil] at sb
        exact sb
      · have ku : k < u.length := by omega
        have ud : u.drop k = u[k] :: u.drop (k + 1) := List.drop_eq_getElem_cons ku
        rw [ud] at sb ⊢
        have tk : (u[k] :: u.drop (k + 1)).take 1 = [u[k]] := rfl
        rw [tk]
        have sb2 : (if u[k] = c then Ar.sub (u.drop (k + 1)) (t.drop (i + 1)) else Ar.sub (u[k] :: u.drop (k + 1)) (t.drop (i + 1))) = Ar.sub u t := sb
        by_cases q2 : u[k] = c
        · rw [if_pos q2] at sb2
          refine ite2 (fun _ => ⟨_, rfl, _, _, rfl, rfl, k + 1, _, rfl, by omega, sb2, e⟩) (fun h => absurd (decide_eq_true (by rw [q2])) h)
        · rw [if_neg q2] at sb2
          refine ite2 (fun h => ?_) (fun _ => ⟨k, _, rfl, kl, by rw [ud]; exact sb2, e⟩)
          have := (tx_inj (l := [u[k]]) (m := [c])).mp (of_decide_eq_true h)
          exact absurd (by simpa using this) q2
    · obtain ⟨k, y, rfl, kl, sb, e⟩ := hp
      refine ⟨_, rfl, _, rfl, mk u, rfl, by rw [mk_len]; exact sz_of (by omega), ?_⟩
      rw [mk_len]
      have td : t.drop t.length = [] := List.drop_of_length_le (Nat.le_refl _)
      rw [td] at sb
      have ev : decide (V.int (k : Nat) = V.int (u.length : Nat)) = Ar.sub u t := by
        rw [← sb]
        by_cases kz : k = u.length
        · have ud : u.drop k = [] := List.drop_of_length_le (by omega)
          rw [ud, Ar.sub_nil, kz]
          exact decide_eq_true rfl
        · have ud : u.drop k = u[k]'(by omega) :: u.drop (k + 1) := List.drop_eq_getElem_cons (by omega)
          rw [ud]
          exact decide_eq_false fun z => kz (by have := V.int.inj z; omega)
      have := q _ e
      rw [← ev] at this
      exact ⟨rfl, this⟩
def sp__law_same (K : PySem.W.Frag) : Sp := fun vs H Q _ => ∃ (x y : V) (d : PyData), vs = [x, y] ∧ Dp K H x d ∧ Dp K H y d ∧ d.showable = true ∧ d.shown.length ≤ sizeLine ∧ d.depth ≤ 60 ∧ Q (.bl true) H
theorem ok__law_same (T : Tx K mg) : Gx.FnG P w K mg base CX0 1 T.a__law_same T.fd__law_same ["_law_told", "_law_due"] (sp__law_same K) := by
  refine Gx.okG T.F__law_same sc__law_same (fun vs H Q E h => ?_) (fun cdv A outer s' H vs Q E gA hr h => ?_)
  · obtain ⟨_, _, _, rfl, _⟩ := h
    rfl
  · obtain ⟨x, y, d, rfl, h1, h2, h3, h4, h5, q⟩ := h
    refine ⟨_, (pss_one (ps_ret (pe_cmpR op_eq (pe_callB (Gx.cr_repr gA hr.units) (by rfl) T.n_repr (by decide +kernel) (pa_cons (pv 0) pa_nil)) (pe_callB (Gx.cr_repr gA hr.units) (by rfl) T.n_repr (by decide +kernel) (pa_cons (pv 1) pa_nil)) (nomark _)))), ?_⟩
    refine ⟨_, rfl, _, d, rfl, h1, h3, h4, h5, _, rfl, _, d, rfl, h2, h3, h4, h5, ?_⟩
    refine ⟨rfl, ?_⟩
    show Q (V.bl (decide (V.str d.shown = V.str d.shown))) H
    rw [decide_eq_true rfl]
    exact q
def az : List Nat := (List.range 26).map fun c => 97 + c
theorem az_str : Str.ofString "abcdefghijklmnopqrstuvwxyz" = mk az := by decide +kernel
theorem mem_az {c : Nat} (h : 97 ≤ c ∧ c ≤ 122) : c ∈ az := List.mem_map.mpr ⟨c - 97, List.mem_range.mpr (by omega), by omega⟩
abbrev ls (L : List Nat) : List V := L.map fun c => tx [c]
def sp__law_longer (K : PySem.W.Frag) : Sp := fun vs H Q _ => ∃ (pw pl : Addr) (ws : List (List Nat)) (L t : List Nat), vs = [.ref pw, .ref pl, tx t] ∧ H pw = some (.lst (ws.map tx)) ∧ H pl = some (.lst (ls L)) ∧ (∀ u ∈ ws, u.length ≤ 900) ∧ t.length ≤ 1000 ∧ ws.length ≤ 20000 ∧ L.length ≤ 3 ∧
  ∀ p H', Ex H H' → H' p = some (.lst ((Rd.longer L t ws).map tx)) → Q (.ref p) H'
theorem longer_take {L t : List Nat} {ws : List (List Nat)} {i : Nat} {u : List Nat} (h : ws[i]? = some u) : Rd.longer L t (ws.take (i + 1)) = Rd.longer L t (ws.take i) ++ (L.filter fun c => Ar.sub (u ++ [c]) t).map fun c => u ++ [c] := by
  unfold Rd.longer
  rw [List.take_add_one, h]
  show (ws.take i ++ [u]).flatMap _ = _
  rw [List.flatMap_append]
  simp
theorem longer_len {L t : List Nat} : ∀ (ws : List (List Nat)), L.length ≤ 3 → (Rd.longer L t ws).length ≤ 3 * ws.length
  | [], _ => Nat.le_refl _
  | u :: ws, h => by
    have ih := longer_len (t := t) ws h
    unfold Rd.longer at ih ⊢
    rw [List.flatMap_cons, List.length_append, List.length_map, List.length_cons]
    have := List.length_filter_le (fun c => Ar.sub (u ++ [c]) t) L
    omega
theorem ok__law_longer (T : Tx K mg) : FnOk P w K mg base CX0 2 T.a__law_longer T.fd__law_longer ["_law_words", "_law_letters_here", "_law_text_here"] (sp__law_longer K) := by
  refine T.F__law_longer.ok sc__law_longer (fun vs H Q E h => ?_) (fun cdv A outer s H vs Q E hr h => ?_)
  · obtain ⟨_, _, _, _, _, rfl, _⟩ := h
    rfl
  · obtain ⟨pw, pl, ws, L, t, rfl, hw, hl, wl, tl, many, L3, q⟩ := h
    refine ⟨_, (pss_cons (ps_set (i := 3) sc__law_longer.nd rfl (by first | exact Or.inl rfl | exact Or.inr rfl) (pe_lst pa_nil)) (pss_cons (ps_for PassesOwn.never rfl (pi_list (pv 0)) (pg_name (i := 4) sc__law_longer.nd rfl (by first | exact Or.inl rfl | exact Or.inr rfl)) (pss_one (ps_set (i := 3) sc__law_longer.nd rfl (by first | exact Or.inl rfl | exact Or.inr rfl) (pe_op op_cat (pv 3) (pe_lc (own := [("_law_letter", 5)]) (g := (gName 5))  rfl sc__law_longer.nd (pi_list (pv 1)) (blkOk_by (own := [("_law_letter", 5)]) (N := N__law_longer) (sc := defScope s__law_longer) (by decide +kernel)) (fun _ _ _ _ _ => (pg_name (i := 5) sc__law_longer.nd rfl (by first | exact Or.inl rfl | exact Or.inr rfl))) (fun _ _ _ _ _ => (pts_one (pt_val (pe_call (ok__law_is_read T) (hr.mono (by decide)) (by rfl) T.g__law_is_read T.F__law_is_read.kp (b__law_is_read T) .nil pass0 (pa_cons (pe_op op_add_str (pv 4) (pv 5)) (pa_cons (pv 2) pa_nil)))))) (fun _ _ _ _ _ => (pe_op op_add_str (pv 4) (pv 5)))))))) (pss_one (ps_ret (pv 3))))), ?_⟩
    refine ⟨Nat.zero_le _, fun pf npf => ?_⟩
    have e0 := ex_upd (o := .lst []) npf
    refine ⟨_, rfl, pw, rfl, ⟨_, .inl (.inl (e0 _ _ hw))⟩, ?_⟩
    refine for_list (xs := ws.map tx) (fun j σ H3 => ∃ (pf : Addr) (y4 y5 : Option V), σ = [some (.ref pw), some (.ref pl), some (tx t), some (.ref pf), y4, y5] ∧ Ex H H3 ∧ H3 pf = some (.lst ((Rd.longer L t (ws.take j)).map tx))) ⟨pf, _, _, rfl, e0, upd_same⟩ (fun j σ H3 _ ⟨_, _, _, _, h, _⟩ => .inl (.inl (h _ _ hw))) (fun j v σ H3 hv ⟨pf, y4, y5, hσ, e3, hpf⟩ => ?_) (fun σ H3 ⟨pf, y4, y5, hσ, e3, hpf⟩ => ?_)
    · subst hσ
      rw [List.getElem?_map] at hv
      cases hu : ws[j]? with
      | none => rw [hu] at hv; cases hv
      | some u =>
        rw [hu] at hv
        cases hv
        have ul := wl u (List.mem_of_getElem? hu)
        have il := (List.getElem?_eq_some_iff.mp hu).1
        have hl3 := e3 _ _ hl
        refine ⟨_, rfl, _, rfl, pl, rfl, ⟨_, .inl (.inl hl3)⟩, fun D nD => ?_⟩
        refine lc_list (xs := ls L) (fun i H' => Ex H3 H' ∧ H' D = some (.lst ((((L.take i).filter fun c => Ar.sub (u ++ [c]) t).map fun c => u ++ [c]).map tx))) ⟨ex_upd nD, upd_same⟩ (fun i H' _ ⟨e4, _⟩ => .inl (.inl (e4 _ _ hl3))) (fun i x Ha hx ⟨e4, hD⟩ => ?_) (fun Ha ⟨e4, hD⟩ => ?_)
        · rw [List.getElem?_map] at hx
          cases hc : L[i]? with
          | none => rw [hc] at hx; cases hx
          | some c =>
            rw [hc] at hx
            cases hx
            have et : L.take (i + 1) = L.take i ++ [c] := by rw [List.take_add_one, hc]; rfl
            have sz : (mk u).length + (mk [c]).length ≤ sizeLine := by rw [mk_len, mk_len]; exact sz_of (by show u.length + 1 ≤ 100000; omega)
            refine ⟨rfl, ?_⟩
            refine ⟨_, rfl, _, rfl, mk u, mk [c], rfl, rfl, sz, ?_⟩
            rw [mk_app]
            refine ⟨_, rfl, u ++ [c], t, rfl, by rw [List.length_append]; show u.length + 1 ≤ _; omega, tl, fun H4 e5 => ?_⟩
            have hD4 := e5 _ _ hD
            rw [et, List.filter_append]
            cases ho : Ar.sub (u ++ [c]) t with
            | true =>
              refine ⟨true, rfl, iteT ⟨_, rfl, _, rfl, mk u, mk [c], rfl, rfl, sz, ?_⟩⟩
              rw [mk_app]
              refine ⟨_, hD4, ?_, (e4.trans e5).mut nD, ?_⟩
              · have := List.length_filter_le (fun c => Ar.sub (u ++ [c]) t) (L.take i)
                rw [List.length_take] at this
                rw [List.length_map, List.length_map]
                exact sz_lt (by omega)
              · rw [upd_same, List.filter_cons_of_pos (by exact ho), List.map_append, List.map_append]
                rfl
            | false =>
              refine ⟨false, rfl, iteF ⟨e4.trans e5, ?_⟩⟩
              rw [List.filter_cons_of_neg (by rw [ho]; decide), List.filter_nil, List.append_nil]
              exact hD4
        · rw [List.length_map, List.take_length] at hD
          have hpf2 := e4 _ _ hpf
          have tk := longer_take (L := L) (t := t) hu
          have l1 := longer_len (L := L) (t := t) (ws.take (j + 1)) L3
          rw [List.length_take] at l1
          refine ⟨pf, D, _, _, rfl, rfl, hpf2, hD, ?_, fun p np => ?_⟩
          · rw [← List.length_append, ← List.map_append, ← tk, List.length_map]
            exact sz_of (by omega)
          · rw [← List.map_append, ← tk]
            exact ⟨p, _, _, rfl, (e3.trans e4).trans (ex_upd np), upd_same⟩
    · subst hσ
      rw [List.length_map, List.take_length] at hpf
      exact ⟨_, rfl, q pf H3 e3 hpf⟩
end
end K78
set_option Elab.async false
set_option linter.all false
set_option maxRecDepth 100000
set_option maxHeartbeats 8000000
namespace K78
open PySem PySem.Spec PyProof.Rows L2 Evl Bx
section
variable {P : Program} {w : World} {K : PySem.W.Frag} {mg : Str → Option Value} {base : Heap}
abbrev lt3 (t : List Nat) : Prop := (az.filter fun c => decide (c ∈ t)).length ≤ 3
def sp__law_reads (K : PySem.W.Frag) : Sp := fun vs H Q _ => ∃ (d : Nat) (t : List Nat), vs = [.int (d : Nat), tx t] ∧ t.length ≤ 7 ∧ lt3 t ∧ ∀ p H', Ex H H' → H' p = some (.lst ((Rd.reads az t d).map tx)) → Q (.ref p) H'
theorem few_reads {t : List Nat} (h : lt3 t) {n : Nat} (hn : n ≤ 7) : (Rd.reads (az.filter fun c => decide (c ∈ t)) t n).length ≤ 17496 := by
  have h1 := Rk.reads_len (t := t) (m := 3) (by decide) h n
  have h2 : 3 ^ n ≤ 3 ^ 7 := Nat.pow_le_pow_right (by decide) hn
  have h3 := Nat.mul_le_mul (show n + 1 ≤ 8 by omega) h2
  omega
theorem few_level {t : List Nat} (h : lt3 t) {n : Nat} (hn : n ≤ 7) : (Rd.level (az.filter fun c => decide (c ∈ t)) t n).length ≤ 2187 := by
  have h1 := Rk.level_len (t := t) (m := 3) h n
  have h2 : 3 ^ n ≤ 3 ^ 7 := Nat.pow_le_pow_right (by decide) hn
  omega
theorem ok__law_reads (T : Tx K mg) : FnOk P w K mg base CX0 3 T.a__law_reads T.fd__law_reads ["_law_depth", "_law_text_here"] (sp__law_reads K) := by
  refine T.F__law_reads.ok sc__law_reads (fun vs H Q E h => ?_) (fun cdv A outer s H vs Q E hr h => ?_)
  · obtain ⟨_, _, rfl, _⟩ := h
    rfl
  · obtain ⟨d, t, rfl, tl, l3, q⟩ := h
    refine ⟨_, (pss_cons (ps_par3 (i := 2) (j := 3) (l := 4) (by rfl) sc__law_reads.nd rfl rfl rfl (by decide) (by decide) (by decide) (by rfl) (by rfl) (by rfl) (pa_cons (pe_lst (pa_cons pe_str pa_nil)) (pa_cons (pe_lst (pa_cons pe_str pa_nil)) (pa_cons (pe_lc (own := [("_law_letter", 5)]) (g := (gName 5))  rfl sc__law_reads.nd (pi_str pe_str) (blkOk_by (own := [("_law_letter", 5)]) (N := N__law_reads) (sc := defScope s__law_reads) (by decide +kernel)) (fun _ _ _ _ _ => (pg_name (i := 5) sc__law_reads.nd rfl (by first | exact Or.inl rfl | exact Or.inr rfl))) (fun _ _ _ _ _ => (pts_one (pt_cmpR op_in_sign (pv 5) (pv 1) rfl))) (fun _ _ _ _ _ => (pv 5))) pa_nil))) (by rfl)) (pss_cons (ps_for PassesOwn.never rfl (pi_range1 (by rfl) T.n_range (pa_cons (pe_callB (call_min2 rfl) (by rfl) T.n_min (by decide +kernel) (pa_cons (pv 0) (pa_cons (pe_callB call_len_str (by rfl) T.n_len (by decide +kernel) (pa_cons (pv 1) pa_nil)) pa_nil))) pa_nil)) (pg_name (i := 6) sc__law_reads.nd rfl (by first | exact Or.inl rfl | exact Or.inr rfl)) (pss_cons (ps_set (i := 2) sc__law_reads.nd rfl (by first | exact Or.inl rfl | exact Or.inr rfl) (pe_call (ok__law_longer T) (hr.mono (by decide)) (by rfl) T.g__law_longer T.F__law_longer.kp (b__law_longer T) .nil pass0 (pa_cons (pv 2) (pa_cons (pv 4) (pa_cons (pv 1) pa_nil))))) (pss_one (ps_set (i := 3) sc__law_reads.nd rfl (by first | exact Or.inl rfl | exact Or.inr rfl) (pe_op op_cat (pv 3) (pv 2)))))) (pss_one (ps_ret (pv 3))))), ?_⟩
    refine ⟨by show 1 ≤ sizeLine; decide, fun p1 n1 => ⟨by show 1 ≤ sizeLine; decide, fun p2 n2 => ⟨_, rfl, fun D nD => ?_⟩⟩⟩
    rw [az_str]
    have e1 := ex_upd (o := .lst [V.str (Str.ofString "")]) n1
    have e2 := e1.trans (ex_upd (o := .lst [V.str (Str.ofString "")]) n2)
    have d12 : p1 ≠ p2 := ex_ne upd_same n2
    refine lc_it (walk_str (z := mk az)) (fun i H' => Ex (upd (upd H p1 (.lst [V.str (Str.ofString "")])) p2 (.lst [V.str (Str.ofString "")])) H' ∧ H' D = some (.lst (ls ((az.take i).filter fun c => decide (c ∈ t))))) ⟨ex_upd nD, upd_same⟩ (fun _ _ _ _ => trivial) (fun i x Ha Hb hi hp y => ?_) (fun Ha hp => ?_)
    · obtain ⟨rfl, c, hc, rfl⟩ := y
      obtain ⟨hx, hD⟩ := hp
      have hc' : az[i]? = some c := by rw [← hc]; simp
      refine ⟨rfl, ?_⟩
      refine ⟨_, rfl, _, rfl, c, mk t, rfl, rfl, _, rfl, ?_⟩
      have et : az.take (i + 1) = az.take i ++ [c] := by
        rw [List.take_add_one, hc']
        rfl
      rw [mk_list]
      refine ite2 (fun h => ?_) (fun h => ?_)
      · refine ⟨_, rfl, _, hD, ?_, hx.mut nD, ?_⟩
        · rw [List.length_map]
          have := List.length_filter_le (fun c => decide (c ∈ t)) (az.take i)
          have e26 : az.length = 26 := rfl
          rw [List.length_take] at this
          exact sz_lt (by omega)
        · rw [upd_same, et, List.filter_append, List.filter_cons, if_pos h, List.filter_nil]
          show _ = some (HO.lst (List.map _ (_ ++ [c])))
          rw [List.map_append]
          rfl
      · rw [et, List.filter_append, List.filter_cons, if_neg h, List.filter_nil, List.append_nil]
        exact ⟨hx, hD⟩
    · have e0 : (mk az).cps.size = az.length := mk_len az
      obtain ⟨hx, hD⟩ := hp
      rw [e0, List.take_of_length_le (Nat.le_refl _)] at hD
      have e3 := e2.trans hx
      have h1 : Ha p1 = some (.lst ([[]].map tx)) := hx _ _ (ex_upd n2 _ _ upd_same)
      have h2 : Ha p2 = some (.lst ([[]].map tx)) := hx _ _ upd_same
      have rw1 := Rd.reads_within az t
      unfold lt3 at l3
      have fl := fun n hn => few_level (t := t) l3 (n := n) hn
      have fr := fun n hn => few_reads (t := t) l3 (n := n) hn
      generalize az.filter (fun c => decide (c ∈ t)) = L at hD l3 fl fr rw1
      refine ⟨_, _, _, rfl, ?_⟩
      have em : (if ((t.length : Nat) : Int) < ((d : Nat) : Int) then ((t.length : Nat) : Int) else ((d : Nat) : Int)) = ((min d t.length : Nat) : Int) := by
        by_cases z : t.length < d
        · rw [if_pos (by omega), Nat.min_eq_right (by omega)]
        · rw [if_neg (by omega), Nat.min_eq_left (by omega)]
      refine ⟨_, rfl, _, rfl, mk t, rfl, by rw [mk_len]; exact sz_of (by omega), _, _, rfl, ((min d t.length : Nat) : Int), by rw [mk_len, em], by omega, by omega, ?_⟩
      rw [Int.toNat_natCast]
      have ml : min d t.length ≤ 7 := by omega
      have cap := Rd.reads_cap L t d
      rw [rw1 d] at cap
      generalize min d t.length = m at ml cap
      refine for_range (lo := 0) (n := m) (fun k σ' H2 => ∃ (pa pb : Addr) (y5 y6 : Option V), σ' = [some (.int (d : Nat)), some (tx t), some (.ref pa), some (.ref pb), some (.ref D), y5, y6] ∧ Ex Ha H2 ∧ H2 pa = some (.lst ((Rd.level L t k).map tx)) ∧ H2 pb = some (.lst ((Rd.reads L t k).map tx))) ⟨p1, p2, _, _, rfl, Ex.refl _, h1, h2⟩ (fun k σ' H2 hk hp => ?_) (fun σ' H2 hp => ?_)
      · obtain ⟨pa, pb, y5, y6, rfl, e4, ha, hb⟩ := hp
        refine ⟨_, rfl, _, rfl, _, rfl, pa, D, _, L, t, rfl, ha, e4 _ _ hD, fun u hu => ?_, by omega, by have := fl k (by omega); omega, l3, fun p H3 e5 h5 => ?_⟩
        · rw [Rd.level_eq] at hu
          have := Lx.wd_size L k u (List.mem_filter.mp hu).1
          omega
        · refine ⟨_, rfl, _, rfl, pb, p, _, _, rfl, rfl, e5 _ _ hb, h5, ?_, fun p6 n6 => ?_⟩
          · have h7 := fr k (by omega)
            have h8 := fl (k + 1) (by omega)
            have h9 : (Rd.longer L t (Rd.level L t k)).length ≤ 2187 := h8
            rw [List.length_map, List.length_map]
            exact sz_of (by omega)
          · rw [← List.map_append]
            exact ⟨p, p6, _, _, rfl, (e4.trans e5).trans (ex_upd n6), ex_upd n6 _ _ h5, upd_same⟩
      · obtain ⟨pa, pb, y5, y6, rfl, e4, ha, hb⟩ := hp
        rw [cap] at hb
        exact ⟨_, rfl, q pb H2 (e3.trans e4) hb⟩
def sp__law_rank_ahead (K : PySem.W.Frag) : Sp := fun vs H Q _ => ∃ (t : List Nat) (i : Nat), vs = [tx t, .int (i : Nat)] ∧ Low t ∧ t.length ≤ 7 ∧ lt3 t ∧ i < t.length ∧ ∀ c r H', t[i]? = some c → Rk.Rank (t.take i) c r → Ex H H' → Q (.int (r : Nat)) H'
theorem lt3_sub {s t : List Nat} (h : lt3 t) (hs : ∀ c ∈ s, c ∈ t) : lt3 s := by
  have key : ∀ l : List Nat, (l.filter fun c => decide (c ∈ s)).length ≤ (l.filter fun c => decide (c ∈ t)).length := by
    intro l
    induction l with
    | nil => exact Nat.le_refl _
    | cons a l ih =>
      rw [List.filter_cons, List.filter_cons]
      by_cases h : a ∈ s
      · rw [if_pos (decide_eq_true h), if_pos (decide_eq_true (hs a h))]
        exact Nat.succ_le_succ ih
      · rw [if_neg (by simpa using h)]
        split
        · exact Nat.le_succ_of_le ih
        · exact ih
  exact Nat.le_trans (key az) h
theorem cut_last (w : List Nat) : cutS (mk w) (some (((w.length : Nat) : Int) - 1)) none = mk (w.drop (w.length - 1)) := by
  cases w with
  | nil => rfl
  | cons a w =>
    have e : (((a :: w).length : Nat) : Int) - 1 = ((w.length : Nat) : Int) := by rw [List.length_cons]; omega
    rw [e, cut_from]
    rfl
theorem ok__law_rank_ahead (T : Tx K mg) : FnOk P w K mg base CX0 4 T.a__law_rank_ahead T.fd__law_rank_ahead ["_law_text_here", "_law_at"] (sp__law_rank_ahead K) := by
  refine T.F__law_rank_ahead.ok sc__law_rank_ahead (fun vs H Q E h => ?_) (fun cdv A outer s H vs Q E hr h => ?_)
  · obtain ⟨_, _, rfl, _⟩ := h
    rfl
  · obtain ⟨t, i, rfl, lo, tl, l3, il, q⟩ := h
    refine ⟨_, (pss_cons (ps_setLc (i := 2) (own := [("_law_word", 3)]) (g := (gName 3))  (by rfl) sc__law_rank_ahead.nd rfl rfl (sw_true rfl rfl rfl (by decide +kernel)) (pi_list (pe_call (ok__law_reads T) (hr.mono (by decide)) (by rfl) T.g__law_reads T.F__law_reads.kp (b__law_reads T) .nil pass0 (pa_cons (pe_callB call_len_str (by rfl) T.n_len (by decide +kernel) (pa_cons (pv 0) pa_nil)) (pa_cons (pe_slice sl_str (pv 0) po_none (po_some (pe_op op_add (pv 1) pe_int))) pa_nil)))) (blkOk_by (own := [("_law_word", 3)]) (N := N__law_rank_ahead) (sc := defScope s__law_rank_ahead) (by decide +kernel)) (fun _ _ _ _ _ => (pg_name (i := 3) sc__law_rank_ahead.nd rfl (by first | exact Or.inl rfl | exact Or.inr rfl))) (fun _ _ _ _ _ => (pts_one (pt_cmpR op_eq (pe_slice sl_str (pv 3) (po_some (pe_op op_sub (pe_callB call_len_str (by rfl) T.n_len (by decide +kernel) (pa_cons (pv 3) pa_nil)) pe_int)) po_none) (pe_ix ix_str (pv 0) (pv 1) (fun _ _ => rfl)) (nomark _)))) (fun _ _ _ _ _ => (pv 3))) (pss_one (ps_ret (pe_callB (cr_min rfl) (by rfl) T.n_min (by decide +kernel) (pa_cons (pe_lc (own := [("_law_word", 3)]) (g := (gName 3))  rfl sc__law_rank_ahead.nd (pi_list (pv 2)) (blkOk_by (own := [("_law_word", 3)]) (N := N__law_rank_ahead) (sc := defScope s__law_rank_ahead) (by decide +kernel)) (fun _ _ _ _ _ => (pg_name (i := 3) sc__law_rank_ahead.nd rfl (by first | exact Or.inl rfl | exact Or.inr rfl))) (fun _ _ _ _ _ => (pts_one (pt_not (pt_val (pe_call (ok__law_is_read T) (hr.mono (by decide)) (by rfl) T.g__law_is_read T.F__law_is_read.kp (b__law_is_read T) .nil pass0 (pa_cons (pv 3) (pa_cons (pe_slice sl_str (pv 0) po_none (po_some (pv 1))) pa_nil))))))) (fun _ _ _ _ _ => (pe_callB call_len_str (by rfl) T.n_len (by decide +kernel) (pa_cons (pv 3) pa_nil)))) pa_nil))))), ?_⟩
    have hc : t[i]? = some t[i] := List.getElem?_eq_getElem il
    have et : t.take (i + 1) = t.take i ++ [t[i]] := by rw [List.take_add_one, hc]; rfl
    have hA : ∀ x ∈ t.take i ++ [t[i]], x ∈ az := fun x hx => by
      rw [← et] at hx
      exact mem_az (lo x (List.mem_of_mem_take hx))
    have pl : (t.take i).length + 1 ≤ t.length := by rw [List.length_take]; omega
    have l3' := lt3_sub (s := t.take (i + 1)) l3 fun c hc => List.mem_of_mem_take hc
    have SZ : (mk t).length ≤ sizeLine := by rw [mk_len]; exact sz_of (by omega)
    have q2 := fun (r : Nat) (H' : Hp) (rk : Rk.Rank (t.take i) t[i] r) (e : Ex H H') => q t[i] r H' hc rk e
    have tlt : (t.take i).length ≤ 7 := by omega
    have etl : (t.take (i + 1)).length ≤ 7 := by rw [List.length_take]; omega
    refine ⟨_, rfl, mk t, rfl, SZ, _, rfl, _, rfl, _, _, rfl, rfl, _, rfl, mk t, rfl, SZ, ?_⟩
    rw [show ((i : Nat) : Int) + 1 = ((i + 1 : Nat) : Int) from rfl, cut_to, mk_len]
    refine ⟨t.length, t.take (i + 1), rfl, etl, l3', fun p1 H1 e1 h1 => ?_⟩
    have mem : ∀ u ∈ Rd.reads az (t.take (i + 1)) t.length, u.length ≤ 7 := fun u hu => Nat.le_trans (Ar.sub_len _ _ (Rd.reads_mem.mp hu).2.2) etl
    have many : (Rd.reads az (t.take (i + 1)) t.length).length ≤ 17496 := by
      rw [← Rd.reads_within]
      exact few_reads l3' tl
    have hR : Rd.reads az (t.take (i + 1)) t.length = Rd.reads az (t.take i ++ [t[i]]) t.length := by rw [et]
    have nw : Rk.news az (t.take i) t[i] t.length = ((Rd.reads az (t.take (i + 1)) t.length).filter fun w => decide (w.drop (w.length - 1) = [t[i]])).filter fun w => !Ar.sub w (t.take i) := by
      rw [hR]
      rfl
    have pos := Rk.news_some az (t.take i) t[i] t.length hA pl
    have lr : ∀ m : Nat, m ∈ (Rk.news az (t.take i) t[i] t.length).map (·.length) → (∀ y ∈ (Rk.news az (t.take i) t[i] t.length).map (·.length), m ≤ y) → Rk.Rank (t.take i) t[i] m := fun m hm low => Rk.least_rank hA pl hm low
    rw [nw] at pos lr
    clear nw hR hA
    generalize Rd.reads az (t.take (i + 1)) t.length = ws at h1 mem many pos lr
    generalize t[i] = c at hc pos lr q2
    refine ⟨p1, rfl, ⟨_, .inl (.inl h1)⟩, fun D nD => ?_⟩
    refine lc_list (xs := ws.map tx) (fun j H' => Ex H1 H' ∧ H' D = some (.lst (((ws.take j).filter fun w => decide (w.drop (w.length - 1) = [c])).map tx))) ⟨ex_upd nD, upd_same⟩ (fun j H' _ ⟨e4, _⟩ => .inl (.inl (e4 _ _ h1))) (fun j x Ha hx ⟨e4, hD⟩ => ?_) (fun Ha ⟨e4, hD⟩ => ?_)
    · rw [List.getElem?_map] at hx
      cases hu : ws[j]? with
      | none => rw [hu] at hx; cases hx
      | some u =>
        rw [hu] at hx
        cases hx
        have ul := mem u (List.mem_of_getElem? hu)
        have il2 := (List.getElem?_eq_some_iff.mp hu).1
        have ek : ws.take (j + 1) = ws.take j ++ [u] := by rw [List.take_add_one, hu]; rfl
        have sz : (mk u).length ≤ sizeLine := by rw [mk_len]; exact sz_of (by omega)
        refine ⟨rfl, ?_⟩
        refine ⟨_, rfl, _, rfl, mk u, rfl, sz, _, 1, rfl, rfl, _, rfl, mk u, rfl, sz, ?_⟩
        rw [mk_len, cut_last]
        refine ⟨_, rfl, _, rfl, mk t, _, c, rfl, rfl, SZ, atI_nat (by rw [mk_list]; exact hc), ?_⟩
        refine ⟨rfl, _, rfl, ?_⟩
        rw [ek, List.filter_append]
        by_cases h : u.drop (u.length - 1) = [c]
        · refine ite2 (fun _ => ?_) (fun z => absurd (decide_eq_true (show V.str (mk (u.drop (u.length - 1))) = V.str ⟨#[c]⟩ by rw [h])) z)
          refine ⟨_, rfl, _, hD, ?_, e4.mut nD, ?_⟩
          · have := List.length_filter_le (fun w => decide (w.drop (w.length - 1) = [c])) (ws.take j)
            rw [List.length_take] at this
            rw [List.length_map]
            exact sz_lt (by omega)
          · rw [upd_same, List.filter_cons_of_pos (by exact decide_eq_true h), List.map_append]
            rfl
        · refine ite2 (fun z => ?_) (fun _ => ⟨e4, ?_⟩)
          · exact absurd ((tx_inj (l := u.drop (u.length - 1)) (m := [c])).mp (of_decide_eq_true z)) h
          · rw [List.filter_cons_of_neg (by simpa using h), List.filter_nil, List.append_nil]
            exact hD
    · rw [List.length_map, List.take_length] at hD
      have mem2 : ∀ u ∈ ws.filter fun w => decide (w.drop (w.length - 1) = [c]), u.length ≤ 7 := fun u hu => mem u (List.mem_filter.mp hu).1
      have many2 : (ws.filter fun w => decide (w.drop (w.length - 1) = [c])).length ≤ 17496 := Nat.le_trans (List.length_filter_le _ _) many
      have e03 := e1.trans e4
      generalize (ws.filter fun w => decide (w.drop (w.length - 1) = [c])) = us at hD mem2 many2 pos lr
      dsimp only [tNext, tSeq, tAsg, tC, gName]
      refine ⟨_, rfl, D, rfl, ⟨_, .inl (.inl hD)⟩, fun D2 nD2 => ?_⟩
      refine lc_list (xs := us.map tx) (fun j H' => Ex Ha H' ∧ H' D2 = some (.lst ((((us.take j).filter fun w => !Ar.sub w (t.take i)).map fun w => ((w.length : Nat) : Int)).map V.int))) ⟨ex_upd nD2, upd_same⟩ (fun j H' _ ⟨e5, _⟩ => .inl (.inl (e5 _ _ hD))) (fun j x Hb hx ⟨e5, hD2⟩ => ?_) (fun Hb ⟨e5, hD2⟩ => ?_)
      · rw [List.getElem?_map] at hx
        cases hu : us[j]? with
        | none => rw [hu] at hx; cases hx
        | some u =>
          rw [hu] at hx
          cases hx
          have ul := mem2 u (List.mem_of_getElem? hu)
          have il2 := (List.getElem?_eq_some_iff.mp hu).1
          have ek : us.take (j + 1) = us.take j ++ [u] := by rw [List.take_add_one, hu]; rfl
          have sz : (mk u).length ≤ sizeLine := by rw [mk_len]; exact sz_of (by omega)
          refine ⟨rfl, ?_⟩
          refine ⟨_, rfl, _, rfl, _, rfl, _, rfl, mk t, rfl, SZ, ?_⟩
          rw [cut_to]
          refine ⟨u, t.take i, rfl, by omega, by omega, fun H4 e6 => ⟨_, rfl, ?_⟩⟩
          have hD4 := e6 _ _ hD2
          rw [ek, List.filter_append]
          cases ho : Ar.sub u (t.take i) with
          | true =>
            refine iteF ⟨e5.trans e6, ?_⟩
            rw [List.filter_cons_of_neg (by rw [ho]; decide), List.filter_nil, List.append_nil]
            exact hD4
          | false =>
            refine iteT ⟨_, rfl, mk u, rfl, sz, _, hD4, ?_, (e5.trans e6).mut nD2, ?_⟩
            · have := List.length_filter_le (fun w => !Ar.sub w (t.take i)) (us.take j)
              rw [List.length_take] at this
              rw [List.length_map, List.length_map]
              exact sz_lt (by omega)
            · rw [upd_same, List.filter_cons_of_pos (by rw [ho]; rfl), List.map_append, List.map_append, mk_len]
              rfl
      · rw [List.length_map, List.take_length] at hD2
        refine ⟨D2, _, rfl, .inl (.inl hD2), by rw [List.length_map]; exact pos, fun m hm low => ?_⟩
        obtain ⟨w, hw, rfl⟩ := List.mem_map.mp hm
        exact q2 _ Hb (lr w.length (List.mem_map_of_mem (f := fun w : List Nat => w.length) hw) fun y hy => by
          obtain ⟨v, hv, rfl⟩ := List.mem_map.mp hy
          have := low _ (List.mem_map_of_mem (f := fun w : List Nat => ((w.length : Nat) : Int)) hv)
          omega) (e03.trans e5)
end
end K78
set_option Elab.async false
set_option linter.all false
set_option maxRecDepth 100000
set_option maxHeartbeats 8000000
namespace K78
open PySem PySem.Spec PyProof.Rows L2 Evl Bx
section
variable {P : Program} {w : World} {K : PySem.W.Frag} {mg : Str → Option Value} {base : Heap}
def sp__law_ranks (K : PySem.W.Frag) : Sp := fun vs H Q _ => ∃ (t : List Nat), vs = [tx t] ∧ Low t ∧ t.length ≤ 7 ∧ lt3 t ∧ ∀ p ps H', Ex H H' → H p = none → Rk.Pr t ps → Rk.PL K H' p ps → Q (.ref p) H'
theorem ok__law_ranks (T : Tx K mg) : FnOk P w K mg base CX0 5 T.a__law_ranks T.fd__law_ranks ["_law_text_here"] (sp__law_ranks K) := by
  refine T.F__law_ranks.ok sc__law_ranks (fun vs H Q E h => ?_) (fun cdv A outer s H vs Q E hr h => ?_)
  · obtain ⟨_, rfl, _⟩ := h
    rfl
  · obtain ⟨t, rfl, lo, tl, l3, q⟩ := h
    refine ⟨_, (pss_cons (ps_par (i := 1) (j := 2) (by rfl) sc__law_ranks.nd rfl rfl (by decide) (by rfl) (by rfl) (pa_cons (pe_lst pa_nil) (pa_cons (Rx.pe_revS (pv 0) (po_some (pe_un un_neg pe_int))) pa_nil)) (by rfl)) (pss_cons (ps_for PassesOwn.never rfl (pi_range1 (by rfl) T.n_range (pa_cons (pe_callB call_len_str (by rfl) T.n_len (by decide +kernel) (pa_cons (pv 0) pa_nil)) pa_nil)) (pg_name (i := 3) sc__law_ranks.nd rfl (by first | exact Or.inl rfl | exact Or.inr rfl)) (pss_one (ps_expr (pe_bm PySem.F.plainAttrs_list PySem.F.slot_list_append PySem.F.type_list_append mt_append (pv 1) (pa_cons (pe_tup (pa_cons (pe_call (ok__law_rank_ahead T) (hr.mono (by decide)) (by rfl) T.g__law_rank_ahead T.F__law_rank_ahead.kp (b__law_rank_ahead T) .nil pass0 (pa_cons (pv 0) (pa_cons (pv 3) pa_nil))) (pa_cons (pe_call (ok__law_rank_ahead T) (hr.mono (by decide)) (by rfl) T.g__law_rank_ahead T.F__law_rank_ahead.kp (b__law_rank_ahead T) .nil pass0 (pa_cons (pv 2) (pa_cons (pe_op op_sub (pe_op op_sub (pe_callB call_len_str (by rfl) T.n_len (by decide +kernel) (pa_cons (pv 0) pa_nil)) pe_int) (pv 3)) pa_nil))) pa_nil))) pa_nil))))) (pss_one (ps_ret (pv 1))))), ?_⟩
    have SZ : (mk t).length ≤ sizeLine := by rw [mk_len]; exact sz_of (by omega)
    refine ⟨Nat.zero_le _, fun pf npf => ⟨_, rfl, _, rfl, _, rfl, mk t, rfl, rfl, by rw [mk_len]; omega, ?_⟩⟩
    rw [turned_mk]
    refine ⟨_, _, rfl, ?_⟩
    have x1 := ex_upd (o := .lst []) npf
    have lr : lt3 t.reverse := lt3_sub l3 fun c hc => List.mem_reverse.mp hc
    have lor : Low t.reverse := lo.sub fun c hc => List.mem_reverse.mp hc
    have tlr : t.reverse.length ≤ 7 := by rw [List.length_reverse]; exact tl
    refine ⟨_, rfl, mk t, rfl, SZ, (t.length : Nat), by rw [mk_len], by omega, by omega, ?_⟩
    rw [Int.toNat_natCast]
    refine for_range (lo := 0) (n := t.length) (fun k σ' H2 => ∃ (ps : List (Nat × Nat)) (y3 : Option V), σ' = [some (tx t), some (.ref pf), some (tx t.reverse), y3] ∧ Ex H H2 ∧ Rk.PL K H2 pf ps ∧ ps.length = k ∧ ∀ j e c, ps[j]? = some e → t[j]? = some c → Rk.Rank (t.take j) c e.1 ∧ Rk.Rank (t.drop (j + 1)).reverse c e.2) ⟨[], _, rfl, x1, ⟨[], upd_same, trivial⟩, rfl, (fun j e c h => by cases h)⟩ (fun k σ' H2 hk hp => ?_) (fun σ' H2 hp => ?_)
    · obtain ⟨ps, y3, rfl, e2, ⟨vs, hv, tw⟩, pl, hr2⟩ := hp
      have z0 : (0 : Int) + ((k : Nat) : Int) = ((k : Nat) : Int) := Int.zero_add _
      rw [z0]
      refine ⟨_, rfl, .inl ⟨rfl, _, .inl (.inl hv)⟩, _, rfl, _, rfl, t, k, rfl, lo, tl, l3, hk, fun c r H3 hc rk e3 => ?_⟩
      refine ⟨_, rfl, _, rfl, mk t, rfl, SZ, _, 1, rfl, rfl, _, rfl, _, _, rfl, rfl, ?_⟩
      have ek : ((mk t).length : Int) - 1 - ((k : Nat) : Int) = ((t.length - 1 - k : Nat) : Int) := by rw [mk_len]; omega
      refine ⟨t.reverse, t.length - 1 - k, by rw [← ek]; rfl, lor, tlr, lr, by rw [List.length_reverse]; omega, fun c2 r2 H4 hc2 rk2 e4 => ?_⟩
      rw [List.getElem?_reverse (by omega), show t.length - 1 - (t.length - 1 - k) = k from by omega, hc] at hc2
      cases hc2
      rw [List.take_reverse, show t.length - (t.length - 1 - k) = k + 1 from by omega] at rk2
      refine ⟨sz_of (by show 2 ≤ 100000; omega), fun a na => ?_⟩
      have e24 := (e3.trans e4).trans (ex_upd (o := .tup [V.int ((r : Nat) : Int), V.int ((r2 : Nat) : Int)]) na)
      have vl := tw.len
      refine ⟨pf, _, _, rfl, rfl, e24 _ _ hv, by rw [vl, pl]; exact sz_lt (by omega), ?_⟩
      have pfa : pf ≠ a := fun z => by rw [z] at hv; have := (e3.trans e4) _ _ hv; rw [na] at this; cases this
      refine ⟨ps ++ [(r, r2)], _, rfl, (e2.trans e24).mut npf, ⟨_, upd_same, ?_⟩, by rw [List.length_append, pl]; rfl, fun j e c3 he h3 => ?_⟩
      · refine Nd.TW.snoc ?_ (.inl (.inl (by rw [upd_ne pfa.symm, upd_same])))
        refine tw.imp fun b xs hb => ?_
        have hb2 := ex_t e24 hb
        rcases hb2 with (h | ⟨o, h⟩) | h
        · exact .inl (.inl (by rw [upd_ne (fun z => by rw [z, e24 _ _ hv] at h; cases h)]; exact h))
        · exact .inl (.inr ⟨o, by rw [upd_ne (fun z => by rw [z, e24 _ _ hv] at h; cases h)]; exact h⟩)
        · exact .inr h
      · by_cases jk : j < k
        · rw [List.getElem?_append_left (by omega)] at he
          exact hr2 j e c3 he h3
        · have jl := (List.getElem?_eq_some_iff.mp he).1
          rw [List.length_append, List.length_singleton] at jl
          have : j = k := by omega
          subst this
          rw [List.getElem?_append_right (by omega), pl, Nat.sub_self] at he
          cases he
          rw [hc] at h3
          cases h3
          exact ⟨rk, rk2⟩
    · obtain ⟨ps, y3, rfl, e2, hpl, pl, hr2⟩ := hp
      exact ⟨_, rfl, q pf ps H2 e2 npf (Rk.Pr.of pl hr2) hpl⟩
def sp__law_row (K : PySem.W.Frag) : Sp := fun vs H Q _ => ∃ (t : List Nat), vs = [tx t] ∧ t.length ≤ 900 ∧ ∀ p ns H', Ex H H' → H p = none → Rk.Fr t ns → H' p = some (.lst (vn ns)) → Q (.ref p) H'
theorem ok__law_row (T : Tx K mg) : FnOk P w K mg base CX0 1 T.a__law_row T.fd__law_row ["_law_text_here"] (sp__law_row K) := by
  refine T.F__law_row.ok sc__law_row (fun vs H Q E h => ?_) (fun cdv A outer s H vs Q E hr h => ?_)
  · obtain ⟨_, rfl, _⟩ := h
    rfl
  · obtain ⟨t, rfl, tl, q⟩ := h
    refine ⟨_, (pss_cons (ps_set (i := 1) sc__law_row.nd rfl (by first | exact Or.inl rfl | exact Or.inr rfl) (pe_lst pa_nil)) (pss_cons (ps_for PassesOwn.never rfl (pi_range1 (by rfl) T.n_range (pa_cons (pe_callB call_len_str (by rfl) T.n_len (by decide +kernel) (pa_cons (pv 0) pa_nil)) pa_nil)) (pg_name (i := 2) sc__law_row.nd rfl (by first | exact Or.inl rfl | exact Or.inr rfl)) (pss_cons (ps_set (i := 3) sc__law_row.nd rfl (by first | exact Or.inl rfl | exact Or.inr rfl) (pe_bm PySem.F.plainAttrs_str PySem.F.slot_str_rfind PySem.F.type_str_rfind mt_rfind (pe_slice sl_str (pv 0) po_none (po_some (pv 2))) (pa_cons (pe_ix ix_str (pv 0) (pv 2) (fun _ _ => rfl)) pa_nil))) (pss_one (ps_expr (pe_bm PySem.F.plainAttrs_list PySem.F.slot_list_append PySem.F.type_list_append mt_append (pv 1) (pa_cons (pe_ifExp (pt_cmpR op_lt (pv 3) pe_int (nomark _)) pe_int (pe_op op_add pe_int (pe_callB (cr_min rfl) (by rfl) T.n_min (by decide +kernel) (pa_cons (pe_slice sl_list (pv 1) (po_some (pv 3)) po_none) pa_nil)))) pa_nil)))))) (pss_one (ps_ret (pv 1))))), ?_⟩
    have SZ : (mk t).length ≤ sizeLine := by rw [mk_len]; exact sz_of (by omega)
    refine ⟨Nat.zero_le _, fun pf npf => ?_⟩
    have x1 := ex_upd (o := .lst []) npf
    refine ⟨_, rfl, mk t, rfl, SZ, (t.length : Nat), by rw [mk_len], by omega, by omega, ?_⟩
    rw [Int.toNat_natCast]
    refine for_range (lo := 0) (n := t.length) (fun k σ' H2 => ∃ (ns : List Nat) (y2 y3 : Option V), σ' = [some (tx t), some (.ref pf), y2, y3] ∧ Ex H H2 ∧ Rk.Fr (t.take k) ns ∧ H2 pf = some (.lst (vn ns))) ⟨[], _, _, rfl, x1, Rk.Fr.nil, upd_same⟩ (fun k σ' H2 hk hp => ?_) (fun σ' H2 hp => ?_)
    · obtain ⟨ns, y2, y3, rfl, e2, fr, hpf⟩ := hp
      have z0 : (0 : Int) + ((k : Nat) : Int) = ((k : Nat) : Int) := Int.zero_add _
      rw [z0]
      have hc : t[k]? = some t[k] := List.getElem?_eq_getElem hk
      have tk : t.take (k + 1) = t.take k ++ [t[k]] := by rw [List.take_add_one, hc]; rfl
      have ti : (t.take k).length = k := by rw [List.length_take]; omega
      have nl := fr.len
      rw [ti] at nl
      refine ⟨_, rfl, _, rfl, _, rfl, mk t, rfl, SZ, ?_⟩
      rw [cut_to]
      refine ⟨rfl, _, rfl, _, rfl, mk t, _, t[k], rfl, rfl, SZ, atI_nat (by rw [mk_list]; exact hc), ?_⟩
      refine ⟨mk (t.take k), ⟨#[t[k]]⟩, rfl, rfl, ?_⟩
      have fin : ∀ (H3 : Hp) (r : Nat), Ex H2 H3 → Rk.Rank (t.take k) t[k] r → Ex H (upd H3 pf (.lst (vn ns ++ [V.int ((r : Nat) : Int)]))) ∧ Rk.Fr (t.take (k + 1)) (ns ++ [r]) ∧ upd H3 pf (.lst (vn ns ++ [V.int ((r : Nat) : Int)])) pf = some (.lst (vn (ns ++ [r]))) := fun H3 r e3 rk => by
        refine ⟨(e2.trans e3).mut npf, by rw [tk]; exact fr.snoc rk, ?_⟩
        rw [upd_same]
        show _ = some (HO.lst (List.map _ (ns ++ [r])))
        rw [List.map_append]
        rfl
      have lz : (vn ns).length < sizeLine := by rw [List.length_map, nl]; exact sz_lt (by omega)
      rcases Fd.rfind_last (t.take k) t[k] with ⟨nc, ef⟩ | ⟨a, s, ea, cs, ef⟩
      · have ef' : Txt.rfind (mk (t.take k)) ⟨#[t[k]]⟩ = -1 := ef
        rw [ef']
        refine ⟨_, rfl, .inl ⟨rfl, _, .inl (.inl hpf)⟩, _, rfl, _, 0, rfl, rfl, _, rfl, iteT ?_⟩
        refine ⟨pf, _, _, rfl, rfl, hpf, lz, ?_⟩
        obtain ⟨a1, a2, a3⟩ := fin H2 1 (Ex.refl _) (Rk.rank_one nc)
        exact ⟨_, _, _, rfl, a1, a2, a3⟩
      · have ef' : Txt.rfind (mk (t.take k)) ⟨#[t[k]]⟩ = ((a.length : Nat) : Int) := ef
        rw [ef']
        refine ⟨_, rfl, .inl ⟨rfl, _, .inl (.inl hpf)⟩, _, rfl, _, 0, rfl, rfl, _, rfl, ite2 (fun z => absurd (of_decide_eq_true z) (by omega)) (fun _ => ?_)⟩
        refine ⟨_, rfl, _, rfl, _, rfl, pf, _, rfl, .inl (.inl hpf), fun p np => ?_⟩
        have ec : cutV (vn ns) (some ((a.length : Nat) : Int)) none = (((ns.drop a.length).map fun n => ((n : Nat) : Int))).map V.int := by
          rw [Cv.cut_from, List.map_map, List.map_drop]
          rfl
        rw [ec]
        have dl : 0 < ((ns.drop a.length).map fun n => ((n : Nat) : Int)).length := by
          have := congrArg List.length ea
          rw [List.length_append, List.length_cons, ti] at this
          rw [List.length_map, List.length_drop, nl]
          omega
        refine ⟨p, _, rfl, .inl (.inl upd_same), dl, fun m hm lo => ?_⟩
        obtain ⟨b, hb, rfl⟩ := List.mem_map.mp hm
        have fr' := fr
        rw [ea] at fr'
        have r := Rk.fr_next fr' cs hb (fun x hx => by
          have := lo _ (List.mem_map_of_mem (f := fun n => ((n : Nat) : Int)) hx)
          omega)
        rw [← ea] at r
        obtain ⟨a1, a2, a3⟩ := fin _ _ (ex_upd (o := .lst (((ns.drop a.length).map fun n => ((n : Nat) : Int)).map V.int)) np) r
        have hpf3 := ex_upd (o := .lst (((ns.drop a.length).map fun n => ((n : Nat) : Int)).map V.int)) np _ _ hpf
        have e1 : (1 : Int) + ((b : Nat) : Int) = ((1 + b : Nat) : Int) := by omega
        refine ⟨_, _, rfl, rfl, pf, _, _, rfl, rfl, hpf3, lz, ?_⟩
        rw [← e1] at a1 a3
        exact ⟨_, _, _, rfl, a1, a2, a3⟩
    · obtain ⟨ns, y2, y3, rfl, e2, fr, hpf⟩ := hp
      rw [List.take_length] at fr
      exact ⟨_, rfl, q pf ns H2 e2 npf fr hpf⟩
def sp__law_long_ranks (K : PySem.W.Frag) : Sp := fun vs H Q _ => ∃ (t : List Nat), vs = [tx t] ∧ t.length ≤ 900 ∧ ∀ p ps H', Ex H H' → H p = none → Rk.Pr t ps → Rk.PL K H' p ps → Q (.ref p) H'
theorem ok__law_long_ranks (T : Tx K mg) : FnOk P w K mg base CX0 2 T.a__law_long_ranks T.fd__law_long_ranks ["_law_text_here"] (sp__law_long_ranks K) := by
  refine T.F__law_long_ranks.ok sc__law_long_ranks (fun vs H Q E h => ?_) (fun cdv A outer s H vs Q E hr h => ?_)
  · obtain ⟨_, rfl, _⟩ := h
    rfl
  · obtain ⟨t, rfl, tl, q⟩ := h
    refine ⟨_, (pss_cons (ps_set (i := 1) sc__law_long_ranks.nd rfl (by first | exact Or.inl rfl | exact Or.inr rfl) (pe_call (ok__law_row T) (hr.mono (by decide)) (by rfl) T.g__law_row T.F__law_row.kp (b__law_row T) .nil pass0 (pa_cons (Rx.pe_revS (pv 0) (po_some (pe_un un_neg pe_int))) pa_nil))) (pss_one (ps_ret (pe_lc (own := [("_law_at", 2), ("_law_rank", 3)]) (g := (gTup K 2 (gCons (gName 2) (gCons (gName 3) gNil)))) (tt := tYes) rfl sc__law_long_ranks.nd (pi_enum (by rfl) T.n_enumerate (pa_cons (pe_call (ok__law_row T) (hr.mono (by decide)) (by rfl) T.g__law_row T.F__law_row.kp (b__law_row T) .nil pass0 (pa_cons (pv 0) pa_nil)) pa_nil)) (blkOk_by (own := [("_law_at", 2), ("_law_rank", 3)]) (N := N__law_long_ranks) (sc := defScope s__law_long_ranks) (by decide +kernel)) (fun _ _ _ _ _ => (pg_tup (by rfl) (pgs_cons (pg_name (i := 2) sc__law_long_ranks.nd rfl (by first | exact Or.inl rfl | exact Or.inr rfl)) (pgs_cons (pg_name (i := 3) sc__law_long_ranks.nd rfl (by first | exact Or.inl rfl | exact Or.inr rfl)) pgs_nil)))) (fun _ _ _ _ _ => pts_nil) (fun _ _ _ _ _ => (pe_tup (pa_cons (pv 3) (pa_cons (pe_ix (ix_list : IxR _ (rIxL K)) (pv 1) (pe_op op_sub (pe_op op_sub (pe_callB call_len_str (by rfl) T.n_len (by decide +kernel) (pa_cons (pv 0) pa_nil)) pe_int) (pv 2)) (fun _ _ => rfl)) pa_nil)))))))), ?_⟩
    have SZ : (mk t).length ≤ sizeLine := by rw [mk_len]; exact sz_of (by omega)
    refine ⟨_, rfl, _, rfl, _, rfl, mk t, rfl, rfl, by rw [mk_len]; omega, ?_⟩
    rw [turned_mk]
    refine ⟨t.reverse, rfl, by rw [List.length_reverse]; exact tl, fun pb ys H1 e1 nb fb hb => ?_⟩
    refine ⟨_, rfl, t, rfl, tl, fun pa xs H2 e2 na fa ha => ?_⟩
    have e12 := e1.trans e2
    have hb2 := e2 _ _ hb
    have xl := fa.len
    have yl := fb.len
    rw [List.length_reverse] at yl
    refine ⟨pa, _, rfl, .inl (.inl ha), fun D nD => ?_⟩
    refine lc_it (walk_enum (K := K) (a := pa) (xs := vn xs)) (fun i H' => Ex H2 H' ∧ Rk.PL K H' D ((xs.zip ys.reverse).take i)) ⟨ex_upd nD, [], upd_same, by rw [List.take_zero]; trivial⟩ (fun i H' _ h => .inl (.inl (h.1 _ _ ha))) (fun i x Ha Hb hi hp y => ?_) (fun Ha hp => ?_)
    · obtain ⟨T1, v1, v2, rfl, nT, rfl, ev1, ev2⟩ := y
      obtain ⟨ea, vs, hD, tw⟩ := hp
      cases ev1
      rw [List.length_map, xl] at hi
      have hx : xs[i]? = some (xs[i]'(by omega)) := List.getElem?_eq_getElem _
      have ev3 : (vn xs)[i]? = some v2 := ev2
      rw [List.getElem?_map, hx] at ev3
      cases ev3
      have T1D : T1 ≠ D := fun z => by rw [z, hD] at nT; cases nT
      have x3 := ex_upd (o := .tup [V.int ((i : Nat) : Int), V.int ((xs[i]'(by omega) : Nat) : Int)]) nT
      have hy : ys[t.length - 1 - i]? = some (ys[t.length - 1 - i]'(by omega)) := List.getElem?_eq_getElem _
      have tk : (xs.zip ys.reverse).take (i + 1) = (xs.zip ys.reverse).take i ++ [(xs[i]'(by omega), ys[t.length - 1 - i]'(by omega))] := by
        rw [List.take_add_one]
        have : (xs.zip ys.reverse)[i]? = some (xs[i]'(by omega), ys[t.length - 1 - i]'(by omega)) := by
          rw [List.getElem?_zip_eq_some, List.getElem?_reverse (by omega)]
          refine ⟨hx, ?_⟩
          have e : ys.length - 1 - i = t.length - 1 - i := by rw [yl]
          show ys[ys.length - 1 - i]? = some (ys[t.length - 1 - i]'(by omega))
          rw [e]
          exact hy
        rw [this]
        rfl
      refine ⟨T1, _, rfl, .inl (.inl upd_same), rfl, _, _, rfl, _, _, rfl, rfl, rfl, ?_⟩
      dsimp only [tYes]
      refine iteT ⟨_, rfl, _, rfl, _, rfl, mk t, rfl, SZ, _, 1, rfl, rfl, _, rfl, _, _, rfl, rfl, ?_⟩
      have ek : ((mk t).length : Int) - 1 - ((i : Nat) : Int) = ((t.length - 1 - i : Nat) : Int) := by rw [mk_len]; omega
      refine ⟨pb, _, _, .int ((ys[t.length - 1 - i]'(by omega) : Nat) : Int), rfl, rfl, .inl (.inl (x3 _ _ (ea _ _ hb2))), ?_, ?_⟩
      · show atI _ (((mk t).length : Int) - 1 - ((i : Nat) : Int)) = _
        rw [ek]
        exact atI_nat (by rw [List.getElem?_map, hy]; rfl)
      refine ⟨sz_of (by show 2 ≤ 100000; omega), fun a na2 => ?_⟩
      have aD : a ≠ D := fun z => by rw [z] at na2; rw [x3 _ _ hD] at na2; cases na2
      have x4 := x3.trans (ex_upd (o := .tup [V.int ((xs[i]'(by omega) : Nat) : Int), V.int ((ys[t.length - 1 - i]'(by omega) : Nat) : Int)]) na2)
      have vl := tw.len
      refine ⟨vs, x4 _ _ hD, by rw [vl, List.length_take]; exact sz_lt (by omega), (ea.trans x4).mut nD, vs ++ [.ref a], upd_same, ?_⟩
      rw [tk]
      refine Nd.TW.snoc ?_ (.inl (.inl (by rw [upd_ne aD, upd_same])))
      refine tw.imp fun b xs hb => ?_
      have hb2 := ex_t x4 hb
      rcases hb2 with (h | ⟨o, h⟩) | h
      · exact .inl (.inl (by rw [upd_ne (fun z => by rw [z, x4 _ _ hD] at h; cases h)]; exact h))
      · exact .inl (.inr ⟨o, by rw [upd_ne (fun z => by rw [z, x4 _ _ hD] at h; cases h)]; exact h⟩)
      · exact .inr h
    · obtain ⟨ea, hpl⟩ := hp
      rw [List.length_map, List.take_of_length_le (by rw [List.length_zip]; omega)] at hpl
      exact q D _ Ha (e12.trans ea) (exn e12 nD) ⟨xs, ys, fa, fb, rfl⟩ hpl
def sp__law_goes (K : PySem.W.Frag) : Sp := fun vs H Q _ => ∃ (d : Nat) (t : List Nat), vs = [.int (d : Nat), tx t] ∧ Low t ∧ t.length ≤ 7 ∧ lt3 t ∧ ∀ p H', Ex H H' → H p = none → (∀ ps, Rk.Pr t ps → H' p = some (.lst (vn (Rk.go d ps)))) → Q (.ref p) H'
theorem ok__law_goes (T : Tx K mg) : FnOk P w K mg base CX0 4 T.a__law_goes T.fd__law_goes ["_law_depth", "_law_text_here"] (sp__law_goes K) := by
  refine T.F__law_goes.ok sc__law_goes (fun vs H Q E h => ?_) (fun cdv A outer s H vs Q E hr h => ?_)
  · obtain ⟨_, _, rfl, _⟩ := h
    rfl
  · obtain ⟨d, t, rfl, lo, tl, l3, q⟩ := h
    refine ⟨_, (pss_cons (ps_set (i := 2) sc__law_goes.nd rfl (by first | exact Or.inl rfl | exact Or.inr rfl) (pe_call (ok__law_reads T) (hr.mono (by decide)) (by rfl) T.g__law_reads T.F__law_reads.kp (b__law_reads T) .nil pass0 (pa_cons (pv 0) (pa_cons (pv 1) pa_nil)))) (pss_one (ps_ret (pe_lc (own := [("_law_at", 3)]) (g := (gName 3))  rfl sc__law_goes.nd (pi_range1 (by rfl) T.n_range (pa_cons (pe_callB call_len_str (by rfl) T.n_len (by decide +kernel) (pa_cons (pv 1) pa_nil)) pa_nil)) (blkOk_by (own := [("_law_at", 3)]) (N := N__law_goes) (sc := defScope s__law_goes) (by decide +kernel)) (fun _ _ _ _ _ => (pg_name (i := 3) sc__law_goes.nd rfl (by first | exact Or.inl rfl | exact Or.inr rfl))) (fun _ _ _ _ _ => (pts_one (pt_cmpR ((op_eqD hr.units) : OpR _ _ (rEqD K)) (pe_call (ok__law_reads T) (hr.mono (by decide)) (by rfl) T.g__law_reads T.F__law_reads.kp (b__law_reads T) .nil pass0 (pa_cons (pv 0) (pa_cons (pe_op op_add_str (pe_slice sl_str (pv 1) po_none (po_some (pv 3))) (pe_slice sl_str (pv 1) (po_some (pe_op op_add (pv 3) pe_int)) po_none)) pa_nil))) (pv 2) (nomark _)))) (fun _ _ _ _ _ => (pv 3)))))), ?_⟩
    have SZ : (mk t).length ≤ sizeLine := by rw [mk_len]; exact sz_of (by omega)
    have hA : ∀ x ∈ t, x ∈ az := fun x hx => mem_az (lo x hx)
    refine ⟨_, rfl, _, rfl, d, t, rfl, tl, l3, fun pd H1 e1 hd => ?_⟩
    refine ⟨_, rfl, mk t, rfl, SZ, (t.length : Nat), by rw [mk_len], by omega, by omega, fun D nD => ?_⟩
    rw [Int.toNat_natCast]
    refine lc_range (lo := 0) (n := t.length) (fun i H2 => Ex H1 H2 ∧ H2 D = some (.lst (vn ((List.range i).filter fun j => decide (Rd.reads az (t.take j ++ t.drop (j + 1)) d = Rd.reads az t d))))) ⟨ex_upd nD, upd_same⟩ (fun i H2 hi hp => ?_) (fun H2 hp => ?_)
    · obtain ⟨e2, hD⟩ := hp
      have z0 : (0 : Int) + ((i : Nat) : Int) = ((i : Nat) : Int) := Int.zero_add _
      rw [z0]
      refine ⟨rfl, ?_⟩
      refine ⟨_, rfl, _, rfl, _, rfl, _, rfl, mk t, rfl, SZ, _, rfl, _, rfl, _, 1, rfl, rfl, _, rfl, mk t, rfl, SZ, ?_⟩
      refine ⟨_, _, rfl, rfl, ?_, ?_⟩
      · rw [cut_to, show ((i : Nat) : Int) + 1 = ((i + 1 : Nat) : Int) from rfl, cut_from, mk_len, mk_len, List.length_take, List.length_drop]
        exact sz_of (by omega)
      rw [cut_to, show ((i : Nat) : Int) + 1 = ((i + 1 : Nat) : Int) from rfl, cut_from, mk_app]
      have sub : ∀ c ∈ t.take i ++ t.drop (i + 1), c ∈ t := fun c hc => (List.mem_append.mp hc).elim List.mem_of_mem_take List.mem_of_mem_drop
      refine ⟨d, _, rfl, by rw [List.length_append, List.length_take, List.length_drop]; omega, lt3_sub l3 sub, fun p H3 e3 h3 => ?_⟩
      have low : ∀ (s : List Nat), ∀ u ∈ Rd.reads az s d, Low u := fun s u hu c hc => by
        obtain ⟨k, hk, rfl⟩ := List.mem_map.mp ((Rd.reads_mem.mp hu).2.1 c hc)
        have := List.mem_range.mp hk
        omega
      refine ⟨_, rfl, Dx.dT _, Dx.dT _, Dx.dp_txs h3, Dx.dp_txs (e3 _ _ (e2 _ _ hd)), Dx.sh_txs (low _), Dx.sh_txs (low _), _, rfl, ?_⟩
      have ev : PyData.eqv (Dx.dT (Rd.reads az (t.take i ++ t.drop (i + 1)) d)) (Dx.dT (Rd.reads az t d)) = decide (Rd.reads az (t.take i ++ t.drop (i + 1)) d = Rd.reads az t d) := by
        show PyData.eqvAll ((Rd.reads az (t.take i ++ t.drop (i + 1)) d).map fun t => PyData.str (mk t)) ((Rd.reads az t d).map fun t => PyData.str (mk t)) = _
        rw [Dx.eqv_txs]
      rw [ev, List.range_succ, List.filter_append]
      have hD3 := e3 _ _ hD
      refine ite2 (fun h => ?_) (fun h => ?_)
      · rw [List.filter_cons_of_pos (by exact h), List.filter_nil]
        refine ⟨_, rfl, _, hD3, ?_, (e2.trans e3).mut nD, ?_⟩
        · have := List.length_filter_le (fun j => decide (Rd.reads az (t.take j ++ t.drop (j + 1)) d = Rd.reads az t d)) (List.range i)
          rw [List.length_range] at this
          rw [List.length_map]
          exact sz_lt (by omega)
        · rw [upd_same]
          show _ = some (HO.lst (List.map _ (_ ++ [i])))
          rw [List.map_append]
          rfl
      · rw [List.filter_cons_of_neg (by exact h), List.filter_nil, List.append_nil]
        exact ⟨e2.trans e3, hD3⟩
    · obtain ⟨e2, hD⟩ := hp
      refine q D H2 (e1.trans e2) (exn e1 nD) fun ps pr => ?_
      rw [hD]
      congr 3
      unfold Rk.go
      rw [pr.len]
      refine List.filter_congr fun i hi => ?_
      exact decide_eq_decide.mpr (Rk.go_reads pr hA d (List.mem_range.mp hi))
end
end K78
set_option Elab.async false
set_option linter.all false
set_option maxRecDepth 100000
set_option maxHeartbeats 4000000
/-! Tm3: sizes of terms; their parts at front and back -/
namespace Tm
open Mx
/-- the numbers' sizes in all -/
def size (ts : Terms) : Nat := (ts.map fun e => e.2.natAbs).sum
theorem size_cons (e : Wd × Int) (r : Terms) : size (e :: r) = e.2.natAbs + size r := by unfold size; rw [List.map_cons, List.sum_cons]
theorem size_mem {ts : Terms} {e : Wd × Int} (h : e ∈ ts) : e.2.natAbs ≤ size ts := by
  induction ts with
  | nil => cases h
  | cons x r ih =>
    rw [size_cons]
    rcases List.mem_cons.mp h with z | z
    · rw [z]; omega
    · have := ih z; omega
theorem ins_size (w : Wd) (n : Int) : ∀ ts : Terms, size (ins w n ts) ≤ n.natAbs + size ts
  | [] => by
    unfold ins
    split
    · exact Nat.zero_le _
    · rw [size_cons]; exact Nat.le_refl _
  | x :: r => by
    have ih := ins_size w n r
    unfold ins
    split
    · split
      · omega
      · rw [size_cons]; exact Nat.le_refl _
    · split
      · split
        · rw [size_cons]; omega
        · rw [size_cons, size_cons]
          show (x.2 + n).natAbs + size r ≤ _
          omega
      · rw [size_cons, size_cons]; omega
theorem nf_size (ts : Terms) : size (nf ts) ≤ size ts := by
  induction ts with
  | nil => exact Nat.le_refl _
  | cons e r ih =>
    rw [size_cons]
    have := ins_size e.1 e.2 (nf r)
    show size (ins e.1 e.2 (nf r)) ≤ _
    omega
theorem ins_len (w : Wd) (n : Int) : ∀ ts : Terms, (ins w n ts).length ≤ ts.length + 1
  | [] => by
    unfold ins
    split <;> simp
  | x :: r => by
    have ih := ins_len w n r
    unfold ins
    split
    · split <;> simp
    · split
      · split
        · simp
          omega
        · simp
      · simp only [List.length_cons]
        omega
theorem nf_len (ts : Terms) : (nf ts).length ≤ ts.length := by
  induction ts with
  | nil => exact Nat.le_refl _
  | cons e r ih =>
    have := ins_len e.1 e.2 (nf r)
    show (ins e.1 e.2 (nf r)).length ≤ r.length + 1
    omega
theorem filterMap_size {f : Wd × Int → Option (Wd × Int)} (h : ∀ e x, f e = some x → x.2.natAbs ≤ e.2.natAbs) : ∀ ts : Terms, size (ts.filterMap f) ≤ size ts
  | [] => Nat.le_refl _
  | e :: r => by
    have ih := filterMap_size h r
    rw [size_cons]
    cases z : f e with
    | none => rw [List.filterMap_cons_none z]; omega
    | some x =>
      rw [List.filterMap_cons_some z, size_cons]
      have := h e x z
      omega
/-- the terms that begin with a word, without it -/
def frontOf (u : Wd) (e : Wd × Int) : Option (Wd × Int) := if e.1.take u.length = u then some (e.1.drop u.length, e.2) else none
def front (u : Wd) (ts : Terms) : Terms := ts.filterMap (frontOf u)
/-- the terms that end with a word, without it -/
def backOf (u : Wd) (e : Wd × Int) : Option (Wd × Int) := if e.1.drop (e.1.length - u.length) = u then some (e.1.take (e.1.length - u.length), e.2) else none
def back (u : Wd) (ts : Terms) : Terms := ts.filterMap (backOf u)
/-- what may be reckoned with: small letters, and sizes that are not too great -/
structure Fit (ts : Terms) : Prop where
  low : ∀ e ∈ ts, ∀ c ∈ e.1, 97 ≤ c ∧ c ≤ 122
  num : size ts < 2 ^ 4000
  fit : ∃ m, (∀ e ∈ ts, e.1.length ≤ m) ∧ ts.length * m ≤ 90000 ∧ m ≤ 1000
  few : ts.length ≤ 90000
theorem Fit.nf {ts : Terms} (h : Fit ts) : Fit (nf ts) := by
  obtain ⟨m, h1, h2, h3⟩ := h.fit
  have hl := nf_len ts
  refine ⟨fun e he => ?_, Nat.lt_of_le_of_lt (nf_size ts) h.num, ⟨m, fun e he => ?_, Nat.le_trans (Nat.mul_le_mul_right m hl) h2, h3⟩, Nat.le_trans hl h.few⟩
  · obtain ⟨x, hx, q⟩ := nf_words ts e he
    rw [← q]
    exact h.low x hx
  · obtain ⟨x, hx, q⟩ := nf_words ts e he
    rw [← q]
    exact h1 x hx
theorem Fit.map {ts : Terms} {f : Wd × Int → Option (Wd × Int)} (h : Fit ts) (hf : ∀ e x, f e = some x → x.2 = e.2 ∧ x.1.length ≤ e.1.length ∧ ∀ c ∈ x.1, c ∈ e.1) : Fit (ts.filterMap f) := by
  obtain ⟨m, h1, h2, h3⟩ := h.fit
  have hl : (ts.filterMap f).length ≤ ts.length := List.length_filterMap_le _ _
  refine ⟨fun x hx c hc => ?_, Nat.lt_of_le_of_lt (filterMap_size (fun e x z => by rw [(hf e x z).1]; exact Nat.le_refl _) ts) h.num, ⟨m, fun x hx => ?_, Nat.le_trans (Nat.mul_le_mul_right m hl) h2, h3⟩, Nat.le_trans hl h.few⟩
  · obtain ⟨e, he, q⟩ := List.mem_filterMap.mp hx
    exact h.low e he c ((hf e x q).2.2 c hc)
  · obtain ⟨e, he, q⟩ := List.mem_filterMap.mp hx
    exact Nat.le_trans (hf e x q).2.1 (h1 e he)
theorem Fit.front {ts : Terms} (h : Fit ts) (u : Wd) : Fit (front u ts) := h.map fun e x z => by
  unfold frontOf at z
  split at z
  · cases z
    exact ⟨rfl, by show (e.1.drop _).length ≤ _; rw [List.length_drop]; omega, fun c hc => List.mem_of_mem_drop hc⟩
  · cases z
theorem Fit.back {ts : Terms} (h : Fit ts) (u : Wd) : Fit (back u ts) := h.map fun e x z => by
  unfold backOf at z
  split at z
  · cases z
    exact ⟨rfl, by show (e.1.take _).length ≤ _; rw [List.length_take]; omega, fun c hc => List.mem_of_mem_take hc⟩
  · cases z
theorem front_cons (u : Wd) (e : Wd × Int) (r : Terms) : front u (e :: r) = (frontOf u e).toList ++ front u r := by
  unfold front
  cases z : frontOf u e with
  | none => rw [List.filterMap_cons_none z]; rfl
  | some x => rw [List.filterMap_cons_some z]; rfl
theorem back_cons (u : Wd) (e : Wd × Int) (r : Terms) : back u (e :: r) = (backOf u e).toList ++ back u r := by
  unfold back
  cases z : backOf u e with
  | none => rw [List.filterMap_cons_none z]; rfl
  | some x => rw [List.filterMap_cons_some z]; rfl
/-- the numbers of a front part: those of the words behind it -/
theorem front_tot (u : Wd) (ts : Terms) (w : Wd) : tot (front u ts) w = tot ts (u ++ w) := by
  induction ts with
  | nil => rfl
  | cons e r ih =>
    rw [front_cons, tot_app, ih]
    show _ = (if e.1 = u ++ w then e.2 else 0) + tot r (u ++ w)
    congr 1
    unfold frontOf
    by_cases h : e.1.take u.length = u
    · rw [if_pos h]
      show (if e.1.drop u.length = w then e.2 else 0) + 0 = _
      rw [Int.add_zero]
      have he : e.1 = u ++ e.1.drop u.length := by
        conv => lhs; rw [← List.take_append_drop u.length e.1, h]
      by_cases q : e.1.drop u.length = w
      · rw [if_pos q, if_pos (by rw [← q]; exact he)]
      · rw [if_neg q, if_neg fun z => q (by rw [z, List.drop_left])]
    · rw [if_neg h, if_neg fun z => h (by rw [z, List.take_left])]
      rfl
theorem back_tot (u : Wd) (ts : Terms) (w : Wd) : tot (back u ts) w = tot ts (w ++ u) := by
  induction ts with
  | nil => rfl
  | cons e r ih =>
    rw [back_cons, tot_app, ih]
    show _ = (if e.1 = w ++ u then e.2 else 0) + tot r (w ++ u)
    congr 1
    unfold backOf
    by_cases h : e.1.drop (e.1.length - u.length) = u
    · rw [if_pos h]
      show (if e.1.take (e.1.length - u.length) = w then e.2 else 0) + 0 = _
      rw [Int.add_zero]
      have he : e.1 = e.1.take (e.1.length - u.length) ++ u := by
        conv => lhs; rw [← List.take_append_drop (e.1.length - u.length) e.1, h]
      by_cases q : e.1.take (e.1.length - u.length) = w
      · rw [if_pos q, if_pos (by rw [← q]; exact he)]
      · rw [if_neg q, if_neg fun z => q (by
          rw [z, List.length_append, Nat.add_sub_cancel, List.take_left])]
    · rw [if_neg h, if_neg fun z => h (by rw [z, List.length_append, Nat.add_sub_cancel, List.drop_left])]
      rfl
end Tm
set_option Elab.async false
set_option linter.all false
set_option maxRecDepth 100000
set_option maxHeartbeats 4000000
/-! Tm4: terms put together from sorted words -/
namespace Tm
open Mx
theorem tot_filter (ts : Terms) (w : Wd) : ((ts.filter fun e => decide (e.1 = w)).map (·.2)).sum = tot ts w := by
  induction ts with
  | nil => rfl
  | cons e r ih =>
    show _ = (if e.1 = w then e.2 else 0) + tot r w
    by_cases h : e.1 = w
    · rw [List.filter_cons_of_pos (by rw [decide_eq_true h]), List.map_cons, List.sum_cons, ih, if_pos h]
    · rw [List.filter_cons_of_neg (by rw [decide_eq_false h]; decide), ih, if_neg h]
      omega
/-- what is found when the first so many words are seen -/
structure Seen (ts : Terms) (ws : List Wd) (i : Nat) (F : Terms) : Prop where
  nf : Nf F
  num : ∀ e ∈ F, e.2 = tot ts e.1 ∧ e.1 ∈ ws.take i
  all : ∀ w ∈ ws.take i, tot ts w ≠ 0 → (w, tot ts w) ∈ F
  few : F.length ≤ i
theorem Seen.zero (ts : Terms) (ws : List Wd) : Seen ts ws 0 [] := ⟨⟨List.Pairwise.nil, fun e h => by cases h⟩, fun e h => (by cases h), fun w h => by simp at h, Nat.zero_le _⟩
theorem Seen.same {ts : Terms} {ws : List Wd} {i : Nat} {F : Terms} {w : Wd} (s : Seen ts ws i F) (h : ws[i]? = some w) (o : w ∈ ws.take i ∨ tot ts w = 0) : Seen ts ws (i + 1) F := by
  have e : ws.take (i + 1) = ws.take i ++ [w] := by rw [List.take_add_one, h]; rfl
  refine ⟨s.nf, fun x hx => ⟨(s.num x hx).1, by rw [e]; exact List.mem_append_left _ (s.num x hx).2⟩, fun v hv nz => ?_, by have := s.few; omega⟩
  rw [e] at hv
  rcases List.mem_append.mp hv with z | z
  · exact s.all v z nz
  · rw [List.mem_singleton] at z
    subst z
    rcases o with o | o
    · exact s.all v o nz
    · exact absurd o nz
theorem Seen.more {ts : Terms} {ws : List Wd} {i : Nat} {F : Terms} {w : Wd} (s : Seen ts ws i F) (h : ws[i]? = some w) (lt : ∀ v ∈ ws.take i, wlt v w) (nz : tot ts w ≠ 0) : Seen ts ws (i + 1) (F ++ [(w, tot ts w)]) := by
  have e : ws.take (i + 1) = ws.take i ++ [w] := by rw [List.take_add_one, h]; rfl
  refine ⟨⟨?_, fun x hx => ?_⟩, fun x hx => ?_, fun v hv nv => ?_, ?_⟩
  · rw [List.map_append]
    refine List.pairwise_append.mpr ⟨s.nf.1, List.pairwise_singleton _ _, fun a ha b hb => ?_⟩
    rw [List.mem_singleton.mp hb]
    obtain ⟨x, hx, rfl⟩ := List.mem_map.mp ha
    exact lt _ (s.num x hx).2
  · rcases List.mem_append.mp hx with z | z
    · exact s.nf.2 x z
    · rw [List.mem_singleton.mp z]
      exact nz
  · rw [e]
    rcases List.mem_append.mp hx with z | z
    · exact ⟨(s.num x z).1, List.mem_append_left _ (s.num x z).2⟩
    · rw [List.mem_singleton.mp z]
      exact ⟨rfl, List.mem_append_right _ (List.mem_singleton.mpr rfl)⟩
  · rw [e] at hv
    rcases List.mem_append.mp hv with z | z
    · exact List.mem_append_left _ (s.all v z nv)
    · rw [List.mem_singleton.mp z]
      exact List.mem_append_right _ (List.mem_singleton.mpr rfl)
  · rw [List.length_append]
    have := s.few
    show F.length + 1 ≤ _
    omega
theorem Seen.done {ts : Terms} {ws : List Wd} {F : Terms} (s : Seen ts ws ws.length F) (h : ∀ e ∈ ts, e.1 ∈ ws) : F = Tm.nf ts := by
  refine nf_eq s.nf fun w => ?_
  by_cases z : tot ts w = 0
  · rw [z]
    refine tot_none fun e he q => ?_
    have := (s.num e he).1
    rw [q, z] at this
    exact s.nf.2 e he this
  · obtain ⟨e, he, q⟩ := Nf.mem_tot z
    have := s.all w (by rw [List.take_length]; exact q ▸ h e he) z
    exact s.nf.tot_mem _ this
/-- of sorted words, one that is not the one ahead of it comes behind all of them -/
theorem sorted_new {ws : List Wd} (p : ws.Pairwise fun a b => ¬ wlt b a) {i : Nat} {u w : Wd} (hw : ws[i + 1]? = some w) (hu : ws[i]? = some u) (n : w ≠ u) : ∀ v ∈ ws.take (i + 1), wlt v w := by
  intro v hv
  obtain ⟨j, hj⟩ := List.getElem?_of_mem hv
  have jl : j < i + 1 := by
    have := (List.getElem?_eq_some_iff.mp hj).1
    rw [List.length_take] at this
    omega
  rw [List.getElem?_take_of_lt jl] at hj
  obtain ⟨j1, j2⟩ := List.getElem?_eq_some_iff.mp hj
  obtain ⟨i1, i2⟩ := List.getElem?_eq_some_iff.mp hu
  obtain ⟨k1, k2⟩ := List.getElem?_eq_some_iff.mp hw
  have uw : wlt u w := by
    have := List.pairwise_iff_getElem.mp p i (i + 1) i1 k1 (by omega)
    rw [i2, k2] at this
    rcases wlt_tri u w with z | z | z
    · exact z
    · exact absurd z.symm n
    · exact absurd z this
  by_cases ji : j = i
  · subst ji
    rw [i2] at j2
    rw [← j2]
    exact uw
  · have := List.pairwise_iff_getElem.mp p j i j1 i1 (by omega)
    rw [j2, i2] at this
    rcases wlt_tri v u with z | z | z
    · exact wlt_trans z uw
    · rw [z]; exact uw
    · exact absurd z this
end Tm
set_option Elab.async false
set_option linter.all false
set_option maxRecDepth 100000
set_option maxHeartbeats 4000000
/-! Tm5: worths at joined texts -/
namespace Tm
open Mx
theorem worth_cons (e : Wd × Int) (r : Terms) (t : Wd) : worth (e :: r) t = e.2 * ((cnt e.1 t : Nat) : Int) + worth r t := by
  unfold worth
  rw [List.map_cons, List.sum_cons]
theorem worth_app (a b : Terms) (t : Wd) : worth (a ++ b) t = worth a t + worth b t := by
  induction a with
  | nil => show _ = 0 + _; rw [Int.zero_add]; rfl
  | cons e r ih =>
    rw [List.cons_append, worth_cons, worth_cons, ih]
    omega
/-- what a word gives for a beginning of it -/
def fr (u w t : Wd) : Int := if w.take u.length = u then ((cnt (w.drop u.length) t : Nat) : Int) else 0
def bk (u w t : Wd) : Int := if w.drop (w.length - u.length) = u then ((cnt (w.take (w.length - u.length)) t : Nat) : Int) else 0
theorem worth_front (u t : Wd) (ts : Terms) : worth (front u ts) t = (ts.map fun e => e.2 * fr u e.1 t).sum := by
  induction ts with
  | nil => rfl
  | cons e r ih =>
    rw [front_cons, worth_app, ih, List.map_cons, List.sum_cons]
    congr 1
    unfold frontOf fr
    by_cases h : e.1.take u.length = u
    · rw [if_pos h, if_pos h]
      show worth [(e.1.drop u.length, e.2)] t = _
      rw [worth_cons]
      exact Int.add_zero _
    · rw [if_neg h, if_neg h, Int.mul_zero]
      rfl
theorem worth_back (u t : Wd) (ts : Terms) : worth (back u ts) t = (ts.map fun e => e.2 * bk u e.1 t).sum := by
  induction ts with
  | nil => rfl
  | cons e r ih =>
    rw [back_cons, worth_app, ih, List.map_cons, List.sum_cons]
    congr 1
    unfold backOf bk
    by_cases h : e.1.drop (e.1.length - u.length) = u
    · rw [if_pos h, if_pos h]
      show worth [(e.1.take (e.1.length - u.length), e.2)] t = _
      rw [worth_cons]
      exact Int.add_zero _
    · rw [if_neg h, if_neg h, Int.mul_zero]
      rfl
theorem gap_front (ts : Terms) (c : Nat) (t : Wd) : worth ts (c :: t) - worth ts t = worth (front [c] ts) t := by
  rw [worth_front]
  induction ts with
  | nil => rfl
  | cons e r ih =>
    rw [worth_cons, worth_cons, List.map_cons, List.sum_cons, ← ih, cnt_front]
    unfold fr
    show e.2 * (((cnt e.1 t + if e.1.take 1 = [c] then cnt (e.1.drop 1) t else 0 : Nat)) : Int) + _ - _ = e.2 * (if e.1.take 1 = [c] then ((cnt (e.1.drop 1) t : Nat) : Int) else 0) + _
    split
    · rw [Int.natCast_add, Int.mul_add]
      omega
    · rw [Nat.add_zero, Int.mul_zero]
      omega
theorem gap_back (ts : Terms) (c : Nat) (t : Wd) : worth ts (t ++ [c]) - worth ts t = worth (back [c] ts) t := by
  rw [worth_back]
  induction ts with
  | nil => rfl
  | cons e r ih =>
    rw [worth_cons, worth_cons, List.map_cons, List.sum_cons, ← ih, cnt_back]
    unfold bk
    show e.2 * (((cnt e.1 t + if e.1.drop (e.1.length - 1) = [c] then cnt (e.1.take (e.1.length - 1)) t else 0 : Nat)) : Int) + _ - _ = e.2 * (if e.1.drop (e.1.length - 1) = [c] then ((cnt (e.1.take (e.1.length - 1)) t : Nat) : Int) else 0) + _
    split
    · rw [Int.natCast_add, Int.mul_add]
      omega
    · rw [Nat.add_zero, Int.mul_zero]
      omega
theorem sum_perm {l m : List Int} (h : l.Perm m) : l.sum = m.sum := by
  induction h with
  | nil => rfl
  | cons x _ ih => rw [List.sum_cons, List.sum_cons, ih]
  | swap x y l =>
    rw [List.sum_cons, List.sum_cons, List.sum_cons, List.sum_cons]
    omega
  | trans _ _ a b => rw [a, b]
theorem sum_filter {α : Type} (p : α → Bool) (f : α → Int) (l : List α) : (l.map fun x => if p x = true then f x else 0).sum = ((l.filter p).map f).sum := by
  induction l with
  | nil => rfl
  | cons x l ih =>
    rw [List.map_cons, List.sum_cons, ih]
    cases h : p x with
    | true =>
      rw [if_pos rfl, List.filter_cons_of_pos h, List.map_cons, List.sum_cons]
    | false =>
      rw [if_neg (by decide), List.filter_cons_of_neg (by rw [h]; decide)]
      omega
theorem sum_swap {α β : Type} (f : α → Int) (g : β → Int) (h : α → β → Int) (l : List α) (m : List β) : (l.map fun a => f a * (m.map fun b => g b * h a b).sum).sum = (m.map fun b => g b * (l.map fun a => f a * h a b).sum).sum := by
  induction m with
  | nil =>
    show (l.map fun a => f a * 0).sum = 0
    induction l with
    | nil => rfl
    | cons a l ih => rw [List.map_cons, List.sum_cons, ih, Int.mul_zero]; rfl
  | cons b m ih =>
    rw [List.map_cons, List.sum_cons, ← ih]
    clear ih
    induction l with
    | nil => show (0 : Int) = g b * 0 + 0; rw [Int.mul_zero]; rfl
    | cons a l ih =>
      simp only [List.map_cons, List.sum_cons] at ih ⊢
      rw [ih, Int.mul_add, Int.mul_add]
      have : f a * (g b * h a b) = g b * (f a * h a b) := by rw [← Int.mul_assoc, ← Int.mul_assoc, Int.mul_comm (f a) (g b)]
      rw [this]
      omega
/-- all beginnings of a word -/
theorem takes_nodup (w : Wd) : ((List.range (w.length + 1)).map fun k => w.take k).Nodup := by
  refine List.pairwise_map.mpr ?_
  refine List.Pairwise.imp_of_mem (fun {a b} ha hb (h : a < b) e => ?_) List.pairwise_lt_range
  have := congrArg List.length e
  rw [List.length_take, List.length_take] at this
  have := List.mem_range.mp hb
  omega
theorem sum_takes {F : List Wd} (nd : F.Nodup) {w : Wd} (all : ∀ k ≤ w.length, w.take k ∈ F) (f : Wd → Int) : (F.map fun u => if w.take u.length = u then f u else 0).sum = ((List.range (w.length + 1)).map fun k => f (w.take k)).sum := by
  have e1 := sum_filter (fun u : Wd => decide (w.take u.length = u)) f F
  simp only [decide_eq_true_eq] at e1
  rw [e1]
  have perm : (F.filter fun u => decide (w.take u.length = u)).Perm ((List.range (w.length + 1)).map fun k => w.take k) := by
    refine (List.perm_ext_iff_of_nodup (nd.filter _) (takes_nodup w)).mpr fun u => ?_
    rw [List.mem_filter, List.mem_map]
    constructor
    · rintro ⟨_, h⟩
      have h := of_decide_eq_true h
      refine ⟨u.length, List.mem_range.mpr ?_, h⟩
      have := congrArg List.length h
      rw [List.length_take] at this
      omega
    · rintro ⟨k, hk, rfl⟩
      have hk := List.mem_range.mp hk
      refine ⟨all k (by omega), decide_eq_true ?_⟩
      rw [List.length_take, Nat.min_eq_left (by omega)]
  rw [sum_perm (perm.map f), List.map_map]
  rfl
theorem joined {F : List Wd} (nd : F.Nodup) {ts : Terms} (all : ∀ e ∈ ts, ∀ k ≤ e.1.length, e.1.take k ∈ F) (s t : Wd) : (F.map fun u => ((cnt u s : Nat) : Int) * worth (nf (front u ts)) t).sum = worth ts (s ++ t) := by
  have e1 : (F.map fun u => ((cnt u s : Nat) : Int) * worth (nf (front u ts)) t) = F.map fun u => ((cnt u s : Nat) : Int) * (ts.map fun e => e.2 * fr u e.1 t).sum := List.map_congr_left fun u _ => by rw [worth_nf, worth_front]
  rw [e1, sum_swap (fun u => ((cnt u s : Nat) : Int)) (fun e : Wd × Int => e.2) (fun u e => fr u e.1 t)]
  unfold worth
  congr 1
  refine List.map_congr_left fun e he => ?_
  congr 1
  rw [cnt_cuts]
  have e2 : (F.map fun u => ((cnt u s : Nat) : Int) * fr u e.1 t) = F.map fun u => if e.1.take u.length = u then ((cnt u s : Nat) : Int) * ((cnt (e.1.drop u.length) t : Nat) : Int) else 0 := List.map_congr_left fun u _ => by
    unfold fr
    split
    · rfl
    · rw [Int.mul_zero]
  rw [e2, sum_takes nd (all e he) fun u => ((cnt u s : Nat) : Int) * ((cnt (e.1.drop u.length) t : Nat) : Int)]
  congr 1
  refine List.map_congr_left fun k hk => ?_
  have := List.mem_range.mp hk
  rw [List.length_take, Nat.min_eq_left (by omega)]
/-- the same from the other end: F holds the beginnings of the turned words -/
theorem joined_back {F : List Wd} (nd : F.Nodup) {ts : Terms} (all : ∀ e ∈ ts, ∀ k ≤ e.1.length, e.1.reverse.take k ∈ F) (s t : Wd) : ((F.map List.reverse).map fun u => ((cnt u t : Nat) : Int) * worth (nf (back u ts)) s).sum = worth ts (s ++ t) := by
  have e1 : ((F.map List.reverse).map fun u => ((cnt u t : Nat) : Int) * worth (nf (back u ts)) s) = F.map fun u => ((cnt u.reverse t : Nat) : Int) * (ts.map fun e => e.2 * bk u.reverse e.1 s).sum := by
    rw [List.map_map]
    exact List.map_congr_left fun u _ => by
      show ((cnt u.reverse t : Nat) : Int) * worth (nf (back u.reverse ts)) s = _
      rw [worth_nf, worth_back]
  rw [e1, sum_swap (fun u : Wd => ((cnt u.reverse t : Nat) : Int)) (fun e : Wd × Int => e.2) (fun u e => bk u.reverse e.1 s)]
  unfold worth
  congr 1
  refine List.map_congr_left fun e he => ?_
  congr 1
  rw [cnt_cuts]
  have e2 : (F.map fun u => ((cnt u.reverse t : Nat) : Int) * bk u.reverse e.1 s) = F.map fun u => if e.1.reverse.take u.length = u then ((cnt u.reverse t : Nat) : Int) * ((cnt (e.1.take (e.1.length - u.length)) s : Nat) : Int) else 0 := List.map_congr_left fun u _ => by
    unfold bk
    have iff : e.1.drop (e.1.length - u.reverse.length) = u.reverse ↔ e.1.reverse.take u.length = u := by
      rw [List.length_reverse, List.take_reverse]
      constructor
      · intro h; rw [h, List.reverse_reverse]
      · intro h; rw [← h, List.reverse_reverse, List.length_reverse, List.length_drop]; congr 1; omega
    by_cases h : e.1.reverse.take u.length = u
    · rw [if_pos (iff.mpr h), if_pos h, List.length_reverse]
    · rw [if_neg (fun z => h (iff.mp z)), if_neg h, Int.mul_zero]
  rw [e2, sum_takes nd (w := e.1.reverse) (fun k hk => all e he k (by rw [List.length_reverse] at hk; exact hk)) fun u => ((cnt u.reverse t : Nat) : Int) * ((cnt (e.1.take (e.1.length - u.length)) s : Nat) : Int)]
  rw [List.length_reverse]
  have rv : ((List.range (e.1.length + 1)).map fun k => ((cnt (e.1.take k) s : Nat) : Int) * ((cnt (e.1.drop k) t : Nat) : Int)).sum = (((List.range (e.1.length + 1)).reverse).map fun k => ((cnt (e.1.take k) s : Nat) : Int) * ((cnt (e.1.drop k) t : Nat) : Int)).sum := sum_perm ((List.reverse_perm _).symm.map _)
  rw [rv]
  congr 1
  refine List.ext_getElem? fun i => ?_
  rw [List.getElem?_map, List.getElem?_map]
  by_cases hi : i < e.1.length + 1
  · rw [List.getElem?_range hi, List.getElem?_reverse (by rw [List.length_range]; exact hi), List.length_range, List.getElem?_range (by omega)]
    show some _ = some _
    congr 1
    have a1 : (e.1.reverse.take i).reverse = e.1.drop (e.1.length - i) := by rw [List.take_reverse, List.reverse_reverse]
    have a2 : e.1.length + 1 - 1 - i = e.1.length - i := by omega
    show ((cnt (e.1.reverse.take i).reverse t : Nat) : Int) * ((cnt (e.1.take (e.1.length - (e.1.reverse.take i).length)) s : Nat) : Int) = ((cnt (e.1.take (e.1.length + 1 - 1 - i)) s : Nat) : Int) * ((cnt (e.1.drop (e.1.length + 1 - 1 - i)) t : Nat) : Int)
    rw [a1, a2, List.length_take, List.length_reverse, Nat.min_eq_left (by omega), Int.mul_comm]
  · rw [List.getElem?_eq_none (by rw [List.length_range]; omega), List.getElem?_eq_none (by rw [List.length_reverse, List.length_range]; omega)]
    rfl
/-! ### parts of parts; turned words -/
def turn (ts : Terms) : Terms := ts.map fun e => (e.1.reverse, e.2)
theorem turn_tot (ts : Terms) (w : Wd) : tot (turn ts) w = tot ts w.reverse := by
  induction ts with
  | nil => rfl
  | cons e r ih =>
    show (if e.1.reverse = w then e.2 else 0) + tot (turn r) w = (if e.1 = w.reverse then e.2 else 0) + tot r w.reverse
    rw [ih]
    congr 1
    by_cases h : e.1.reverse = w
    · rw [if_pos h, if_pos (by rw [← h, List.reverse_reverse])]
    · rw [if_neg h, if_neg fun z => h (by rw [z, List.reverse_reverse])]
theorem front_nf (u : Wd) (ts : Terms) : nf (front u (nf ts)) = nf (front u ts) := nf_congr fun w => by rw [front_tot, front_tot, nf_tot]
theorem back_nf (u : Wd) (ts : Terms) : nf (back u (nf ts)) = nf (back u ts) := nf_congr fun w => by rw [back_tot, back_tot, nf_tot]
theorem front_front (u v : Wd) (ts : Terms) : nf (front v (nf (front u ts))) = nf (front (u ++ v) ts) := nf_congr fun w => by rw [front_tot, nf_tot, front_tot, front_tot, List.append_assoc]
theorem back_back (u v : Wd) (ts : Terms) : nf (back v (nf (back u ts))) = nf (back (v ++ u) ts) := nf_congr fun w => by rw [back_tot, nf_tot, back_tot, back_tot, List.append_assoc]
theorem back_front (u v : Wd) (ts : Terms) : nf (back v (nf (front u ts))) = nf (front u (nf (back v ts))) := nf_congr fun w => by rw [back_tot, nf_tot, front_tot, front_tot, nf_tot, back_tot, List.append_assoc]
theorem back_turn (u : Wd) (ts : Terms) : nf (back u.reverse (nf (turn ts))) = nf (turn (nf (front u ts))) := nf_congr fun w => by rw [back_tot, nf_tot, turn_tot, turn_tot, nf_tot, front_tot, List.reverse_append, List.reverse_reverse]
theorem front_nil (ts : Terms) : front [] ts = ts := by
  induction ts with
  | nil => rfl
  | cons e r ih =>
    rw [front_cons, ih]
    have : frontOf [] e = some e := by
      unfold frontOf
      rw [if_pos (by rfl)]
      rfl
    rw [this]
    rfl
theorem back_nil (ts : Terms) : back [] ts = ts := by
  induction ts with
  | nil => rfl
  | cons e r ih =>
    rw [back_cons, ih]
    unfold backOf
    have : e.1.drop (e.1.length - ([] : Wd).length) = [] := by rw [show ([] : Wd).length = 0 from rfl, Nat.sub_zero, List.drop_length]
    rw [if_pos this, show ([] : Wd).length = 0 from rfl, Nat.sub_zero, List.take_length]
    rfl
end Tm
set_option Elab.async false
set_option linter.all false
set_option maxRecDepth 100000
set_option maxHeartbeats 4000000
/-! Tm6: series of words (as functions of the word read from its end), letters and letters undone; terms moved by a series -/
namespace Tm
open Mx
abbrev Ser := Wd → Int
def one : Ser
  | [] => 1
  | _ :: _ => 0
def mul1 (f : Ser) (c : Nat) : Ser
  | [] => f []
  | x :: r => f (x :: r) + if x = c then f r else 0
def div1 (f : Ser) (c : Nat) : Ser
  | [] => f []
  | x :: r => f (x :: r) - if x = c then div1 f c r else 0
theorem mul_div (f : Ser) (c : Nat) : ∀ r, mul1 (div1 f c) c r = f r
  | [] => rfl
  | x :: r => by
    show (f (x :: r) - if x = c then div1 f c r else 0) + (if x = c then div1 f c r else 0) = _
    omega
theorem div_mul (f : Ser) (c : Nat) : ∀ r, div1 (mul1 f c) c r = f r
  | [] => rfl
  | x :: r => by
    show (f (x :: r) + if x = c then f r else 0) - (if x = c then div1 (mul1 f c) c r else 0) = _
    rw [div_mul f c r]
    omega
theorem mul_congr {f g : Ser} (h : ∀ r, f r = g r) (c : Nat) : ∀ r, mul1 f c r = mul1 g c r
  | [] => h []
  | x :: r => by
    show f (x :: r) + (if x = c then f r else 0) = g (x :: r) + if x = c then g r else 0
    rw [h, h]
theorem div_congr {f g : Ser} (h : ∀ r, f r = g r) (c : Nat) : ∀ r, div1 f c r = div1 g c r
  | [] => h []
  | x :: r => by
    show f (x :: r) - (if x = c then div1 f c r else 0) = g (x :: r) - if x = c then div1 g c r else 0
    rw [h, div_congr h c r]
/-- f times g -/
def conv (f : Ser) : Ser → Ser
  | g, [] => f [] * g []
  | g, x :: r => f (x :: r) * g [] + conv f (fun s => g (x :: s)) r
theorem conv_congr (f : Ser) : ∀ (r : Wd) {g h : Ser}, (∀ s, g s = h s) → conv f g r = conv f h r
  | [], g, h, e => by
    show f [] * g [] = f [] * h []
    rw [e]
  | x :: r, g, h, e => by
    show f (x :: r) * g [] + conv f (fun s => g (x :: s)) r = f (x :: r) * h [] + conv f (fun s => h (x :: s)) r
    rw [e, conv_congr f r (fun s => e (x :: s))]
theorem conv_add (f : Ser) : ∀ (r : Wd) (g h : Ser), conv f (fun s => g s + h s) r = conv f g r + conv f h r
  | [], g, h => Int.mul_add _ _ _
  | x :: r, g, h => by
    show f (x :: r) * (g [] + h []) + conv f (fun s => g (x :: s) + h (x :: s)) r = (f (x :: r) * g [] + conv f (fun s => g (x :: s)) r) + (f (x :: r) * h [] + conv f (fun s => h (x :: s)) r)
    rw [conv_add f r (fun s => g (x :: s)) (fun s => h (x :: s)), Int.mul_add]
    omega
theorem conv_zero (f : Ser) : ∀ r : Wd, conv f (fun _ => 0) r = 0
  | [] => Int.mul_zero _
  | x :: r => by
    show f (x :: r) * 0 + conv f (fun _ => 0) r = 0
    rw [conv_zero f r, Int.mul_zero]
    rfl
theorem conv_one (f : Ser) : ∀ r : Wd, conv f one r = f r
  | [] => Int.mul_one _
  | x :: r => by
    show f (x :: r) * 1 + conv f (fun _ => 0) r = _
    rw [conv_zero, Int.mul_one, Int.add_zero]
theorem conv_mul (f g : Ser) (c : Nat) : ∀ r, conv f (mul1 g c) r = mul1 (conv f g) c r
  | [] => rfl
  | x :: r => by
    show f (x :: r) * g [] + conv f (fun s => g (x :: s) + if x = c then g s else 0) r = (f (x :: r) * g [] + conv f (fun s => g (x :: s)) r) + if x = c then conv f g r else 0
    rw [conv_add f r (fun s => g (x :: s)) fun s => if x = c then g s else 0]
    by_cases h : x = c
    · have : conv f (fun s => if x = c then g s else 0) r = conv f g r := conv_congr f r fun s => if_pos h
      rw [this, if_pos h]
      omega
    · have : conv f (fun s => if x = c then g s else 0) r = 0 := (conv_congr f r fun s => if_neg h).trans (conv_zero f r)
      rw [this, if_neg h]
      omega
theorem conv_div (f g : Ser) (c : Nat) (r : Wd) : conv f (div1 g c) r = div1 (conv f g) c r := by
  have h : ∀ r, mul1 (conv f (div1 g c)) c r = conv f g r := fun r => by
    rw [← conv_mul]
    exact conv_congr f r (mul_div g c)
  rw [← div_mul (conv f (div1 g c)) c r]
  exact div_congr h c r
/-- a sign more: a letter, or a letter undone -/
def put (f : Ser) (e : Nat × Bool) : Ser := if e.2 = true then div1 f e.1 else mul1 f e.1
theorem put_congr {f g : Ser} (h : ∀ r, f r = g r) (e : Nat × Bool) : ∀ r, put f e r = put g e r := fun r => by
  unfold put
  split
  · exact div_congr h e.1 r
  · exact mul_congr h e.1 r
def ser (s : List (Nat × Bool)) : Ser := s.foldl put one
theorem ser_snoc (s : List (Nat × Bool)) (e : Nat × Bool) : ser (s ++ [e]) = put (ser s) e := by
  unfold ser
  rw [List.foldl_append]
  rfl
theorem conv_put (f g : Ser) (e : Nat × Bool) (r : Wd) : conv f (put g e) r = put (conv f g) e r := by
  unfold put
  split
  · exact conv_div f g e.1 r
  · exact conv_mul f g e.1 r
/-- two rows of signs, one behind the other -/
theorem conv_ser (a : List (Nat × Bool)) : ∀ (n : Nat) (b : List (Nat × Bool)), b.length = n → ∀ r, conv (ser a) (ser b) r = ser (a ++ b) r
  | 0, b, h, r => by
    rw [List.length_eq_zero_iff.mp h, List.append_nil]
    exact conv_one _ r
  | n + 1, b, h, r => by
    have nb : b ≠ [] := fun z => by rw [z] at h; cases h
    rw [← List.dropLast_concat_getLast nb, ser_snoc, ← List.append_assoc, ser_snoc, conv_put]
    exact put_congr (conv_ser a n b.dropLast (by rw [List.length_dropLast]; omega)) _ r
def flip (e : Nat × Bool) : Nat × Bool := (e.1, !e.2)
theorem put_flip (f : Ser) (e : Nat × Bool) (r : Wd) : put (put f e) (flip e) r = f r := by
  unfold put flip
  cases h : e.2 with
  | true =>
    show mul1 (div1 f e.1) e.1 r = f r
    exact mul_div f e.1 r
  | false =>
    show div1 (mul1 f e.1) e.1 r = f r
    exact div_mul f e.1 r
/-- signs and the same undone -/
theorem ser_undone : ∀ (s : List (Nat × Bool)) (f : Ser) (r : Wd), (s ++ (s.reverse.map flip)).foldl put f r = f r
  | [], f, r => rfl
  | e :: s, f, r => by
    rw [List.reverse_cons, List.map_append, ← List.append_assoc, List.foldl_append, List.cons_append]
    show put ((s ++ (s.reverse.map flip)).foldl put (put f e)) (flip e) r = f r
    rw [put_congr (ser_undone s (put f e)) (flip e) r]
    exact put_flip f e r
theorem ser_inv (s : List (Nat × Bool)) (r : Wd) : conv (ser s) (ser (s.reverse.map flip)) r = one r := by
  rw [conv_ser s _ _ rfl]
  exact ser_undone s one r
theorem ser_inv' (s : List (Nat × Bool)) (r : Wd) : conv (ser (s.reverse.map flip)) (ser s) r = one r := by
  have := ser_inv (s.reverse.map flip) r
  have e : (s.reverse.map flip).reverse.map flip = s := by
    rw [← List.map_reverse, List.reverse_reverse, List.map_map]
    conv => rhs; rw [← List.map_id s]
    refine List.map_congr_left fun e _ => ?_
    show flip (flip e) = e
    unfold flip
    simp
  rw [e] at this
  exact this
/-- a text's letters give the counts -/
def small (t : List Nat) : List (Nat × Bool) := t.map fun c => (c, false)
theorem ser_cnt : ∀ (n : Nat) (t : List Nat), t.length = n → ∀ w, ser (small t) w.reverse = ((cnt w t : Nat) : Int)
  | 0, t, h, w => by
    rw [List.length_eq_zero_iff.mp h]
    cases w with
    | nil => rfl
    | cons c w =>
      rw [cnt_e]
      show one (c :: w).reverse = 0
      cases z : (c :: w).reverse with
      | nil =>
        have := congrArg List.length z
        rw [List.length_reverse] at this
        cases this
      | cons _ _ => rfl
  | n + 1, t, h, w => by
    have nt : t ≠ [] := fun z => by rw [z] at h; cases h
    have ih := ser_cnt n t.dropLast (by rw [List.length_dropLast]; omega)
    have e : small t = small t.dropLast ++ [(t.getLast nt, false)] := by
      conv => lhs; rw [← List.dropLast_concat_getLast nt]
      unfold small
      rw [List.map_append]
      rfl
    rw [e, ser_snoc]
    conv => rhs; rw [← List.dropLast_concat_getLast nt]
    show mul1 (ser (small t.dropLast)) (t.getLast nt) w.reverse = _
    by_cases nw : w = []
    · subst nw
      have := ih []
      rw [cnt_nil] at this ⊢
      exact this
    · conv => lhs; rw [← List.dropLast_concat_getLast nw, List.reverse_append]
      conv => rhs; rw [← List.dropLast_concat_getLast nw, cnt_snoc]
      show ser (small t.dropLast) (w.getLast nw :: w.dropLast.reverse) + (if w.getLast nw = t.getLast nt then ser (small t.dropLast) w.dropLast.reverse else 0) = _
      have e2 : w.getLast nw :: w.dropLast.reverse = (w.dropLast ++ [w.getLast nw]).reverse := by rw [List.reverse_append]; rfl
      rw [e2, ih, ih]
      split
      · rw [Int.natCast_add]
      · rw [Nat.add_zero, Int.add_zero]
end Tm
set_option Elab.async false
set_option linter.all false
set_option maxRecDepth 100000
set_option maxHeartbeats 4000000
/-! Tm7: terms moved by a series; one move behind another -/
namespace Tm
open Mx
theorem range_succ_sum (f : Nat → Int) (n : Nat) : ((List.range (n + 1)).map f).sum = ((List.range n).map f).sum + f n := by
  rw [List.range_succ, List.map_append, List.sum_append]
  show _ + (f n + 0) = _
  omega
theorem conv_sum : ∀ (n : Nat) (p : Wd) (f g : Ser), p.length = n → conv f g p.reverse = ((List.range (p.length + 1)).map fun k => f (p.take k).reverse * g (p.drop k).reverse).sum
  | 0, p, f, g, h => by
    rw [List.length_eq_zero_iff.mp h]
    show f [] * g [] = f [] * g [] + 0
    omega
  | n + 1, p, f, g, h => by
    have np : p ≠ [] := fun z => by rw [z] at h; cases h
    obtain ⟨q, x, rfl⟩ : ∃ q x, p = q ++ [x] := ⟨p.dropLast, p.getLast np, (List.dropLast_concat_getLast np).symm⟩
    have hq : q.length = n := by
      rw [List.length_append] at h
      exact Nat.succ.inj h
    rw [List.length_append]
    show conv f g (q ++ [x]).reverse = ((List.range (q.length + 1 + 1)).map _).sum
    rw [range_succ_sum, List.reverse_append]
    show f (x :: q.reverse) * g [] + conv f (fun s => g (x :: s)) q.reverse = _
    rw [conv_sum n q f (fun s => g (x :: s)) hq]
    have e1 : (q ++ [x]).take (q.length + 1) = q ++ [x] := List.take_of_length_le (by rw [List.length_append]; exact Nat.le_refl _)
    have e2 : (q ++ [x]).drop (q.length + 1) = [] := List.drop_of_length_le (by rw [List.length_append]; exact Nat.le_refl _)
    rw [e1, e2, List.reverse_append]
    have e3 : ((List.range (q.length + 1)).map fun k => f (q.take k).reverse * g (x :: (q.drop k).reverse)) = (List.range (q.length + 1)).map fun k => f ((q ++ [x]).take k).reverse * g ((q ++ [x]).drop k).reverse := List.map_congr_left fun k hk => by
      have := List.mem_range.mp hk
      rw [List.take_append_of_le_length (by omega), List.drop_append_of_le_length (by omega), List.reverse_append]
      rfl
    rw [e3]
    show f (x :: q.reverse) * g [] + _ = _ + f (x :: q.reverse) * g []
    omega
/-- the terms that one word gives -/
def cuts (g : Ser) (e : Wd × Int) : Terms := (List.range (e.1.length + 1)).map fun k => (e.1.drop k, e.2 * g (e.1.take k).reverse)
def shift (g : Ser) (ts : Terms) : Terms := ts.flatMap (cuts g)
theorem shift_cons (g : Ser) (e : Wd × Int) (r : Terms) : shift g (e :: r) = cuts g e ++ shift g r := rfl
theorem sum_mul (a : Int) (l : List Int) : (l.map fun x => a * x).sum = a * l.sum := by
  induction l with
  | nil => exact (Int.mul_zero a).symm
  | cons x l ih => rw [List.map_cons, List.sum_cons, List.sum_cons, ih, Int.mul_add]
/-- the worth of moved terms -/
theorem worth_shift (t x : Wd) : ∀ ts : Terms, worth (shift (ser (small t)) ts) x = worth ts (t ++ x)
  | [] => rfl
  | e :: r => by
    rw [shift_cons, worth_app, worth_cons, worth_shift t x r]
    congr 1
    rw [cnt_cuts]
    unfold worth cuts
    rw [List.map_map, ← sum_mul, List.map_map]
    congr 1
    refine List.map_congr_left fun k _ => ?_
    show (e.2 * ser (small t) (e.1.take k).reverse) * ((cnt (e.1.drop k) x : Nat) : Int) = e.2 * (((cnt (e.1.take k) t : Nat) : Int) * ((cnt (e.1.drop k) x : Nat) : Int))
    rw [ser_cnt _ t rfl, Int.mul_assoc]
/-- what a word gives for a word that it ends with -/
def fin (g : Ser) (w v : Wd) : Int := if v.drop (v.length - w.length) = w then g (v.take (v.length - w.length)).reverse else 0
theorem cuts_tot (g : Ser) (e : Wd × Int) (w : Wd) : tot (cuts g e) w = e.2 * fin g w e.1 := by
  have key : ∀ n, n ≤ e.1.length + 1 → tot ((List.range n).map fun k => (e.1.drop k, e.2 * g (e.1.take k).reverse)) w = if (e.1.length - w.length < n ∧ e.1.drop (e.1.length - w.length) = w) then e.2 * g (e.1.take (e.1.length - w.length)).reverse else 0 := by
    intro n
    induction n with
    | zero =>
      intro _
      rw [if_neg (fun z => by omega)]
      rfl
    | succ n ih =>
      intro hn
      rw [List.range_succ, List.map_append, tot_app, ih (by omega)]
      show _ + ((if e.1.drop n = w then e.2 * g (e.1.take n).reverse else 0) + 0) = _
      by_cases h : e.1.drop n = w
      · have hl : w.length = e.1.length - n := by rw [← h, List.length_drop]
        have en : e.1.length - w.length = n := by omega
        rw [if_pos h, en, if_neg (fun z => by omega), if_pos ⟨by omega, h⟩]
        omega
      · rw [if_neg h]
        by_cases q : e.1.length - w.length < n ∧ e.1.drop (e.1.length - w.length) = w
        · rw [if_pos q, if_pos ⟨by omega, q.2⟩]
          omega
        · rw [if_neg q, if_neg]
          · rfl
          · intro z
            by_cases y : e.1.length - w.length = n
            · exact h (y ▸ z.2)
            · exact q ⟨by omega, z.2⟩
  unfold cuts fin
  rw [key _ (Nat.le_refl _)]
  by_cases h : e.1.drop (e.1.length - w.length) = w
  · rw [if_pos ⟨by omega, h⟩, if_pos h]
  · rw [if_neg (fun z => h z.2), if_neg h, Int.mul_zero]
theorem shift_tot (g : Ser) (w : Wd) : ∀ ts : Terms, tot (shift g ts) w = (ts.map fun e => e.2 * fin g w e.1).sum
  | [] => rfl
  | e :: r => by rw [shift_cons, tot_app, cuts_tot, shift_tot g w r, List.map_cons, List.sum_cons]
theorem shift_nf (g : Ser) (ts : Terms) : nf (shift g (nf ts)) = nf (shift g ts) := nf_congr fun w => by rw [shift_tot, shift_tot, nf_sum (fun v => fin g w v) ts]
theorem shift_congr {g h : Ser} (e : ∀ r, g r = h r) (ts : Terms) : shift g ts = shift h ts := by
  unfold shift
  congr 1
  funext x
  unfold cuts
  exact List.map_congr_left fun k _ => by rw [e]
theorem fin_conv (h g : Ser) (w v : Wd) : ((List.range (v.length + 1)).map fun k => h (v.take k).reverse * fin g w (v.drop k)).sum = fin (conv h g) w v := by
  by_cases z : v.drop (v.length - w.length) = w
  · have hl := congrArg List.length z
    rw [List.length_drop] at hl
    have cv : fin (conv h g) w v = ((List.range (v.length - w.length + 1)).map fun k => h ((v.take (v.length - w.length)).take k).reverse * g ((v.take (v.length - w.length)).drop k).reverse).sum := by
      unfold fin
      rw [if_pos z, conv_sum _ _ h g rfl]
      have : (v.take (v.length - w.length)).length = v.length - w.length := by rw [List.length_take]; omega
      rw [this]
    rw [cv]
    have key : ∀ d, d ≤ w.length → ((List.range (v.length - w.length + 1 + d)).map fun k => h (v.take k).reverse * fin g w (v.drop k)).sum = ((List.range (v.length - w.length + 1)).map fun k => h ((v.take (v.length - w.length)).take k).reverse * g ((v.take (v.length - w.length)).drop k).reverse).sum := by
      intro d
      induction d with
      | zero =>
        intro _
        congr 1
        refine List.map_congr_left fun k hk => ?_
        have hk := List.mem_range.mp hk
        have a1 : (v.take (v.length - w.length)).take k = v.take k := by rw [List.take_take, Nat.min_eq_left (by omega)]
        have a2 : (v.drop k).length - w.length = v.length - w.length - k := by rw [List.length_drop]; omega
        have a3 : (v.drop k).drop (v.length - w.length - k) = w := by
          rw [List.drop_drop]
          have : k + (v.length - w.length - k) = v.length - w.length := by omega
          rw [this]
          exact z
        unfold fin
        rw [a1, a2, if_pos a3, List.drop_take]
      | succ d ih =>
        intro hd
        have e : v.length - w.length + 1 + (d + 1) = (v.length - w.length + 1 + d) + 1 := by omega
        rw [e, range_succ_sum, ih (by omega)]
        have : fin g w (v.drop (v.length - w.length + 1 + d)) = 0 := by
          unfold fin
          refine if_neg fun y => ?_
          have := congrArg List.length y
          rw [List.length_drop, List.length_drop] at this
          omega
        rw [this, Int.mul_zero, Int.add_zero]
    have ev : v.length + 1 = v.length - w.length + 1 + w.length := by omega
    rw [ev]
    exact key w.length (Nat.le_refl _)
  · have r0 : fin (conv h g) w v = 0 := by unfold fin; exact if_neg z
    rw [r0]
    have : ∀ l : List Nat, (∀ k ∈ l, k ≤ v.length) → (l.map fun k => h (v.take k).reverse * fin g w (v.drop k)).sum = 0 := by
      intro l
      induction l with
      | nil => intro _; rfl
      | cons k l ih =>
        intro hl
        have hk := hl k List.mem_cons_self
        have f0 : fin g w (v.drop k) = 0 := by
          unfold fin
          refine if_neg fun y => z ?_
          rw [List.drop_drop, List.length_drop] at y
          have yl := congrArg List.length y
          rw [List.length_drop] at yl
          have : k + (v.length - k - w.length) = v.length - w.length := by omega
          rw [this] at y
          exact y
        rw [List.map_cons, List.sum_cons, ih (fun j hj => hl j (List.mem_cons_of_mem _ hj)), f0, Int.mul_zero]
        rfl
    exact this _ fun k hk => by have := List.mem_range.mp hk; omega
/-- one move behind another -/
theorem shift_shift (h g : Ser) (ts : Terms) : nf (shift g (nf (shift h ts))) = nf (shift (conv h g) ts) := by
  rw [shift_nf]
  refine nf_congr fun w => ?_
  rw [shift_tot, shift_tot]
  induction ts with
  | nil => rfl
  | cons e r ih =>
    rw [shift_cons, List.map_append, List.sum_append, ih, List.map_cons, List.sum_cons]
    congr 1
    rw [← fin_conv h g w e.1, ← sum_mul, List.map_map]
    unfold cuts
    rw [List.map_map]
    congr 1
    refine List.map_congr_left fun k _ => ?_
    show (e.2 * h (e.1.take k).reverse) * fin g w (e.1.drop k) = e.2 * (h (e.1.take k).reverse * fin g w (e.1.drop k))
    rw [Int.mul_assoc]
theorem fin_one (w v : Wd) : fin one w v = if v = w then 1 else 0 := by
  unfold fin
  by_cases h : v = w
  · subst h
    rw [Nat.sub_self, List.drop_zero, if_pos rfl, if_pos rfl, List.take_zero]
    rfl
  · rw [if_neg h]
    split
    · rename_i z
      have hl := congrArg List.length z
      rw [List.length_drop] at hl
      cases q : (v.take (v.length - w.length)).reverse with
      | nil =>
        have := congrArg List.length q
        rw [List.length_reverse, List.length_take] at this
        have e0 : v.length - w.length = 0 := by
          have : ([] : Wd).length = 0 := rfl
          omega
        rw [e0, List.drop_zero] at z
        exact absurd z h
      | cons _ _ => rfl
    · rfl
theorem shift_one (ts : Terms) : nf (shift one ts) = nf ts := nf_congr fun w => by
  rw [shift_tot, tot_sum]
  congr 1
  exact List.map_congr_left fun e _ => by rw [fin_one]
/-- moved and unmoved -/
theorem shift_back (s : List (Nat × Bool)) {ts : Terms} (h : Nf ts) : nf (shift (ser (s.reverse.map flip)) (nf (shift (ser s) ts))) = ts := by
  rw [shift_shift, shift_congr (ser_inv s), shift_one, nf_id h]
theorem shift_back' (s : List (Nat × Bool)) {ts : Terms} (h : Nf ts) : nf (shift (ser s) (nf (shift (ser (s.reverse.map flip)) ts))) = ts := by
  rw [shift_shift, shift_congr (ser_inv' s), shift_one, nf_id h]
end Tm
set_option Elab.async false
set_option linter.all false
set_option maxRecDepth 100000
set_option maxHeartbeats 4000000
/-! Tm9: the longest words of terms -/
namespace Tm
open Mx
def deg (ts : Terms) : Int := match ts.getLast? with
  | none => -1
  | some e => (e.1.length : Nat)
def top (m : Int) (ts : Terms) : Terms := ts.filter fun e => decide (((e.1.length : Nat) : Int) = m)
theorem deg_nil : deg [] = -1 := rfl
theorem deg_last {ts : Terms} (n : ts ≠ []) : deg ts = ((ts.getLast n).1.length : Nat) := by
  unfold deg
  rw [List.getLast?_eq_getLast n]
theorem deg_le {ts : Terms} (h : Nf ts) : ∀ e ∈ ts, ((e.1.length : Nat) : Int) ≤ deg ts := by
  intro e he
  have n : ts ≠ [] := fun z => by rw [z] at he; cases he
  rw [deg_last n]
  have hs : ts = ts.dropLast ++ [ts.getLast n] := (List.dropLast_concat_getLast n).symm
  have pw := h.1
  rw [hs, List.map_append] at pw
  have hp := List.pairwise_append.mp pw
  have he2 : e ∈ ts.dropLast ++ [ts.getLast n] := by rw [← hs]; exact he
  rcases List.mem_append.mp he2 with z | z
  · have := hp.2.2 e.1 (List.mem_map_of_mem (f := (·.1)) z) (ts.getLast n).1 (by simp)
    rcases this with y | ⟨y, _⟩
    · omega
    · omega
  · rw [List.mem_singleton.mp z]
    exact Int.le_refl _
theorem deg_of {ts : Terms} (h : Nf ts) {m : Int} (hm : m = -1 ∨ ∃ e ∈ ts, m = ((e.1.length : Nat) : Int)) (all : ∀ e ∈ ts, ((e.1.length : Nat) : Int) ≤ m) : m = deg ts := by
  by_cases n : ts = []
  · subst n
    rcases hm with z | ⟨e, he, _⟩
    · exact z
    · cases he
  · have h1 := all _ (List.getLast_mem n)
    rw [← deg_last n] at h1
    rcases hm with z | ⟨e, he, z⟩
    · rw [deg_last n] at h1
      omega
    · have := deg_le h e he
      omega
theorem top_tot (m : Int) (ts : Terms) (w : Wd) : tot (top m ts) w = if ((w.length : Nat) : Int) = m then tot ts w else 0 := by
  unfold top
  induction ts with
  | nil => split <;> rfl
  | cons e r ih =>
    by_cases h : ((e.1.length : Nat) : Int) = m
    · rw [List.filter_cons_of_pos (by rw [decide_eq_true h])]
      show (if e.1 = w then e.2 else 0) + tot (r.filter _) w = if ((w.length : Nat) : Int) = m then (if e.1 = w then e.2 else 0) + tot r w else 0
      rw [ih]
      by_cases q : e.1 = w
      · subst q
        rw [if_pos h, if_pos h]
      · rw [if_neg q]
        split <;> omega
    · rw [List.filter_cons_of_neg (by rw [decide_eq_false h]; decide), ih]
      show _ = if ((w.length : Nat) : Int) = m then (if e.1 = w then e.2 else 0) + tot r w else 0
      by_cases q : e.1 = w
      · subst q
        rw [if_neg h, if_neg h]
      · rw [if_neg q]
        split <;> omega
theorem top_nf {ts : Terms} (h : Nf ts) (m : Int) : Nf (top m ts) := by
  unfold top
  exact ⟨h.1.sublist (List.filter_sublist.map _), fun e he => h.2 e ((List.mem_filter.mp he).1)⟩
theorem fin_long {g : Ser} (g0 : g [] = 1) {w v : Wd} (h : v.length ≤ w.length) : fin g w v = if v = w then 1 else 0 := by
  unfold fin
  have e : v.length - w.length = 0 := by omega
  rw [e, List.drop_zero, List.take_zero]
  by_cases q : v = w
  · rw [if_pos q, if_pos q]
    exact g0
  · rw [if_neg q, if_neg q]
theorem shift_long {g : Ser} (g0 : g [] = 1) {ts : Terms} (h : Nf ts) {w : Wd} (hw : deg ts ≤ ((w.length : Nat) : Int)) : tot (nf (shift g ts)) w = tot ts w := by
  rw [nf_tot, shift_tot, tot_sum]
  congr 1
  refine List.map_congr_left fun e he => ?_
  have := deg_le h e he
  rw [fin_long g0 (by omega)]
theorem shift_words {g : Ser} {ts : Terms} (h : Nf ts) : ∀ e ∈ nf (shift g ts), ((e.1.length : Nat) : Int) ≤ deg ts := by
  intro e he
  obtain ⟨x, hx, q⟩ := nf_words _ e he
  obtain ⟨y, hy, hc⟩ := List.mem_flatMap.mp hx
  obtain ⟨k, _, rfl⟩ := List.mem_map.mp hc
  have := deg_le h y hy
  rw [← q]
  show (((y.1.drop k).length : Nat) : Int) ≤ _
  rw [List.length_drop]
  omega
theorem shift_deg {g : Ser} (g0 : g [] = 1) {ts : Terms} (h : Nf ts) : deg (nf (shift g ts)) = deg ts := by
  refine (deg_of (nf_nf _) ?_ fun e he => shift_words h e he).symm
  by_cases n : ts = []
  · subst n
    exact .inl rfl
  · right
    have hl := List.getLast_mem n
    have nz : tot (nf (shift g ts)) (ts.getLast n).1 ≠ 0 := by
      rw [shift_long g0 h (by rw [deg_last n]; exact Int.le_refl _), h.tot_mem _ hl]
      exact h.2 _ hl
    obtain ⟨e, he, q⟩ := Nf.mem_tot nz
    exact ⟨e, he, by rw [deg_last n, q]⟩
theorem shift_top {g : Ser} (g0 : g [] = 1) {ts : Terms} (h : Nf ts) : top (deg ts) (nf (shift g ts)) = top (deg ts) ts := by
  refine Nf.ext (top_nf (nf_nf _) _) (top_nf h _) fun w => ?_
  rw [top_tot, top_tot]
  split
  · rename_i e
    exact shift_long g0 h (by omega)
  · rfl
theorem ser_nil : ∀ (n : Nat) (s : List (Nat × Bool)), s.length = n → ser s [] = 1
  | 0, s, h => by
    rw [List.length_eq_zero_iff.mp h]
    rfl
  | n + 1, s, h => by
    have ns : s ≠ [] := fun z => by rw [z] at h; cases h
    rw [← List.dropLast_concat_getLast ns, ser_snoc]
    have ih := ser_nil n s.dropLast (by rw [List.length_dropLast]; omega)
    unfold put
    split
    · exact ih
    · exact ih
end Tm
set_option Elab.async false
set_option linter.all false
set_option maxRecDepth 100000
set_option maxHeartbeats 4000000
/-! Gm: the greatest common divisor of numbers, Euclid's steps, and the divisor of all worths -/
namespace Gm
open Tm Mx
def gcdL (ns : List Int) : Nat := ns.foldl (fun g n => Nat.gcd g n.natAbs) 0
theorem fold_dvd (d : Nat) : ∀ (ns : List Int) (g : Nat), d ∣ ns.foldl (fun g n => Nat.gcd g n.natAbs) g ↔ d ∣ g ∧ ∀ n ∈ ns, (d : Int) ∣ n
  | [], g => by simp
  | n :: r, g => by
    rw [List.foldl_cons, fold_dvd d r, Nat.dvd_gcd_iff, ← Int.ofNat_dvd_left (z := n)]
    simp only [List.mem_cons, forall_eq_or_imp]
    exact ⟨fun ⟨⟨a, b⟩, c⟩ => ⟨a, b, c⟩, fun ⟨a, b, c⟩ => ⟨⟨a, b⟩, c⟩⟩
theorem gcdL_dvd (d : Nat) (ns : List Int) : d ∣ gcdL ns ↔ ∀ n ∈ ns, (d : Int) ∣ n := by
  unfold gcdL
  rw [fold_dvd]
  exact ⟨fun h => h.2, fun h => ⟨Nat.dvd_zero d, h⟩⟩
theorem gcdL_snoc (ns : List Int) (n : Int) : gcdL (ns ++ [n]) = Nat.gcd (gcdL ns) n.natAbs := by
  unfold gcdL
  rw [List.foldl_append]
  rfl
theorem eq_of_dvd {a b : Nat} (h : ∀ d : Nat, d ∣ a ↔ d ∣ b) : a = b := Nat.dvd_antisymm ((h a).mp (Nat.dvd_refl a)) ((h b).mpr (Nat.dvd_refl b))
theorem gcdL_congr {ns ms : List Int} (h : ∀ d : Nat, (∀ n ∈ ns, (d : Int) ∣ n) ↔ ∀ n ∈ ms, (d : Int) ∣ n) : gcdL ns = gcdL ms := eq_of_dvd fun d => by rw [gcdL_dvd, gcdL_dvd]; exact h d
theorem gcdL_of (ns : List Int) : ∀ n ∈ ns, ((gcdL ns : Nat) : Int) ∣ n := (gcdL_dvd _ ns).mp (Nat.dvd_refl _)
theorem gcdL_zero {ns : List Int} (h : gcdL ns = 0) : ∀ n ∈ ns, n = 0 := fun n hn => by
  have := gcdL_of ns n hn
  rw [h] at this
  exact Int.zero_dvd.mp this
theorem fold_mul (k : Int) : ∀ (ns : List Int) (g : Nat), (ns.map fun n => k * n).foldl (fun g n => Nat.gcd g n.natAbs) (k.natAbs * g) = k.natAbs * ns.foldl (fun g n => Nat.gcd g n.natAbs) g
  | [], _ => rfl
  | n :: r, g => by
    rw [List.map_cons, List.foldl_cons, List.foldl_cons, ← fold_mul k r, Int.natAbs_mul, Nat.gcd_mul_left]
theorem gcdL_mul (k : Int) (ns : List Int) : gcdL (ns.map fun n => k * n) = k.natAbs * gcdL ns := by
  unfold gcdL
  rw [← fold_mul k ns 0, Nat.mul_zero]
/-! Euclid's steps -/
def eu : Nat → Nat × Nat → Nat × Nat
  | 0, p => p
  | n + 1, p => eu n (p.2, p.1 % p.2)
theorem eu_gcd : ∀ (n : Nat) (p : Nat × Nat), Nat.gcd (eu n p).1 (eu n p).2 = Nat.gcd p.1 p.2
  | 0, _ => rfl
  | n + 1, p => by
    show Nat.gcd (eu n (p.2, p.1 % p.2)).1 (eu n (p.2, p.1 % p.2)).2 = _
    rw [eu_gcd n, Nat.gcd_comm p.1 p.2, Nat.gcd_rec p.2 p.1, Nat.gcd_comm]
theorem eu_succ : ∀ (n : Nat) (p : Nat × Nat), eu (n + 1) p = ((eu n p).2, (eu n p).1 % (eu n p).2)
  | 0, _ => rfl
  | n + 1, p => eu_succ n (p.2, p.1 % p.2)
/-- while the second is not 0 the product falls by halves -/
theorem eu_falls {p : Nat × Nat} : ∀ n, (∀ i ≤ n, 0 < (eu i p).2) → (eu (n + 1) p).2 < (eu (n + 1) p).1 ∧ 2 ^ n * ((eu (n + 1) p).1 * (eu (n + 1) p).2) ≤ p.2 * p.2
  | 0, h => by
    have h0 : 0 < p.2 := h 0 (Nat.le_refl 0)
    show p.1 % p.2 < p.2 ∧ 2 ^ 0 * (p.2 * (p.1 % p.2)) ≤ p.2 * p.2
    have := Nat.mod_lt p.1 h0
    refine ⟨this, ?_⟩
    rw [Nat.pow_zero, Nat.one_mul]
    exact Nat.mul_le_mul_left _ (Nat.le_of_lt this)
  | n + 1, h => by
    obtain ⟨a, b⟩ := eu_falls n fun i hi => h i (by omega)
    have h1 : 0 < (eu (n + 1) p).2 := h (n + 1) (Nat.le_refl _)
    rw [eu_succ (n + 1) p]
    generalize eu (n + 1) p = q at a b h1
    obtain ⟨l, k⟩ := q
    show l % k < k ∧ 2 ^ (n + 1) * (k * (l % k)) ≤ p.2 * p.2
    have m1 := Nat.mod_lt l h1
    refine ⟨m1, Nat.le_trans ?_ b⟩
    have e : l % k + k * (l / k) = l := Nat.mod_add_div l k
    have d1 : 1 ≤ l / k := (Nat.one_le_div_iff h1).mpr (Nat.le_of_lt a)
    have d2 : k * 1 ≤ k * (l / k) := Nat.mul_le_mul_left k d1
    have two : 2 * (l % k) ≤ l := by
      have m1' : l % k < k := m1
      omega
    have : k * (2 * (l % k)) ≤ k * l := Nat.mul_le_mul_left k two
    show 2 ^ (n + 1) * (k * (l % k)) ≤ 2 ^ n * (l * k)
    rw [Nat.pow_succ, Nat.mul_assoc]
    refine Nat.mul_le_mul_left _ ?_
    have e3 : k * (2 * (l % k)) = 2 * (k * (l % k)) := Nat.mul_left_comm _ _ _
    have e4 : k * l = l * k := Nat.mul_comm _ _
    omega
theorem eu_ends {p : Nat × Nat} {b : Nat} (hb : p.2 < 2 ^ b) : ∃ i ≤ 2 * b + 1, (eu i p).2 = 0 := by
  apply Decidable.byContradiction
  intro z
  have all : ∀ i ≤ 2 * b + 1, 0 < (eu i p).2 := fun i hi => by
    rcases Nat.eq_zero_or_pos (eu i p).2 with q | q
    · exact absurd ⟨i, hi, q⟩ z
    · exact q
  obtain ⟨a, c⟩ := eu_falls (p := p) (2 * b) fun i hi => all i (by omega)
  have h1 := all (2 * b + 1) (Nat.le_refl _)
  have h2 : 1 ≤ (eu (2 * b + 1) p).1 * (eu (2 * b + 1) p).2 := Nat.mul_pos (by omega) h1
  have h3 : p.2 * p.2 < 2 ^ b * 2 ^ b := Nat.mul_lt_mul'' hb hb
  rw [← Nat.pow_add] at h3
  have h4 : 2 ^ (2 * b) * 1 ≤ 2 ^ (2 * b) * ((eu (2 * b + 1) p).1 * (eu (2 * b + 1) p).2) := Nat.mul_le_mul_left _ h2
  have e : b + b = 2 * b := by omega
  rw [e] at h3
  omega
/-! counts of a word in texts no longer than it -/
theorem cnt_long : ∀ (t u : List Nat), t.length < u.length → cnt u t = 0
  | [], [], h => by simp at h
  | [], a :: u, _ => rfl
  | b :: t, [], h => by simp at h
  | b :: t, a :: u, h => by
    have h' : t.length + 1 < u.length + 1 := h
    rw [cnt_c, cnt_long t (a :: u) (by show t.length < u.length + 1; omega), cnt_long t u (by omega)]
    split <;> rfl
theorem cnt_same : ∀ (t u : List Nat), t.length = u.length → cnt u t = if u = t then 1 else 0
  | [], [], _ => rfl
  | [], a :: u, h => by simp at h
  | b :: t, [], h => by simp at h
  | b :: t, a :: u, h => by
    have h' : t.length + 1 = u.length + 1 := h
    rw [cnt_c, cnt_long t (a :: u) (by show t.length < u.length + 1; omega), cnt_same t u (by omega)]
    by_cases e : a = b
    · subst e
      by_cases q : u = t
      · subst q
        simp
      · simp [q]
    · simp [e]
theorem dvd_sum {d : Int} : ∀ {l : List Int}, (∀ x ∈ l, d ∣ x) → d ∣ l.sum
  | [], _ => by rw [List.sum_nil]; exact Int.dvd_zero d
  | x :: l, h => by
    rw [List.sum_cons]
    exact Int.dvd_add (h x List.mem_cons_self) (dvd_sum fun y hy => h y (List.mem_cons_of_mem _ hy))
theorem worth_dvd {d : Int} {ts : Terms} (h : ∀ e ∈ ts, d ∣ e.2) (t : Wd) : d ∣ worth ts t := by
  unfold worth
  refine dvd_sum fun x hx => ?_
  obtain ⟨e, he, rfl⟩ := List.mem_map.mp hx
  exact Int.dvd_mul_of_dvd_left (h e he)
/-- the worth at a word of its own: its number, and what shorter words bring -/
theorem dvd_own {d : Int} {e : Wd × Int} : ∀ {ts : Terms}, (ts.map (·.1)).Nodup → e ∈ ts → (∀ x ∈ ts, x.1.length < e.1.length → d ∣ x.2) → d ∣ worth ts e.1 → d ∣ e.2 := by
  have rest : ∀ ts : Terms, (∀ x ∈ ts, x.1 ≠ e.1) → (∀ x ∈ ts, x.1.length < e.1.length → d ∣ x.2) → d ∣ worth ts e.1 := by
    intro ts hn hs
    unfold worth
    refine dvd_sum fun y hy => ?_
    obtain ⟨x, hx, rfl⟩ := List.mem_map.mp hy
    rcases Nat.lt_trichotomy x.1.length e.1.length with z | z | z
    · exact Int.dvd_mul_of_dvd_left (hs x hx z)
    · rw [cnt_same e.1 x.1 z.symm, if_neg (hn x hx)]
      simp
    · rw [cnt_long e.1 x.1 z]
      simp
  intro ts
  induction ts with
  | nil => intro _ h; cases h
  | cons x r ih =>
    intro nd he hs hw
    have nd' := List.nodup_cons.mp nd
    have e0 : worth (x :: r) e.1 = x.2 * ((cnt x.1 e.1 : Nat) : Int) + worth r e.1 := rfl
    rcases List.mem_cons.mp he with z | z
    · subst z
      rw [e0, cnt_same e.1 e.1 rfl, if_pos rfl] at hw
      have hr := rest r (fun y hy q => nd'.1 (List.mem_map.mpr ⟨y, hy, q⟩)) fun y hy => hs y (List.mem_cons_of_mem _ hy)
      have := (Int.dvd_add_left hr).mp hw
      simpa using this
    · refine ih nd'.2 z (fun y hy => hs y (List.mem_cons_of_mem _ hy)) ?_
      rw [e0] at hw
      refine (Int.dvd_add_right ?_).mp hw
      have ne : x.1 ≠ e.1 := fun q => nd'.1 (List.mem_map.mpr ⟨e, z, q.symm⟩)
      rcases Nat.lt_trichotomy x.1.length e.1.length with y | y | y
      · exact Int.dvd_mul_of_dvd_left (hs x List.mem_cons_self y)
      · rw [cnt_same e.1 x.1 y.symm, if_neg ne]
        simp
      · rw [cnt_long e.1 x.1 y]
        simp
theorem dvd_words {d : Int} {ts : Terms} (nd : (ts.map (·.1)).Nodup) (hw : ∀ e ∈ ts, d ∣ worth ts e.1) : ∀ e ∈ ts, d ∣ e.2 := by
  have key : ∀ n, ∀ e ∈ ts, e.1.length < n → d ∣ e.2 := by
    intro n
    induction n with
    | zero => intro e _ h; omega
    | succ n ih =>
      intro e he hl
      exact dvd_own nd he (fun x hx hs => ih x hx (by omega)) (hw e he)
  exact fun e he => key (e.1.length + 1) e he (by omega)
theorem nf_nodup {ts : Terms} (h : Nf ts) : (ts.map (·.1)).Nodup := h.1.imp fun {a b} h (q : a = b) => wlt_irrefl b (by rw [q] at h; exact h)
theorem gcd_worths {ts : Terms} (h : Nf ts) {F : List Wd} (all : ∀ e ∈ ts, e.1 ∈ F) : gcdL (F.map fun t => worth ts t) = gcdL (ts.map (·.2)) := by
  refine gcdL_congr fun d => ⟨fun hd n hn => ?_, fun hd n hn => ?_⟩
  · obtain ⟨e, he, rfl⟩ := List.mem_map.mp hn
    exact dvd_words (nf_nodup h) (fun x hx => hd _ (List.mem_map.mpr ⟨x.1, all x hx, rfl⟩)) e he
  · obtain ⟨t, _, rfl⟩ := List.mem_map.mp hn
    exact worth_dvd (fun e he => hd _ (List.mem_map_of_mem (f := (·.2)) he)) t
theorem worth_abs (t : Wd) : ∀ ts : Terms, (worth ts t).natAbs ≤ size ts * 2 ^ t.length
  | [] => Nat.zero_le _
  | e :: r => by
    have ih := worth_abs t r
    have e0 : worth (e :: r) t = e.2 * ((cnt e.1 t : Nat) : Int) + worth r t := rfl
    rw [e0, size_cons, Nat.add_mul]
    refine Nat.le_trans (Int.natAbs_add_le _ _) (Nat.add_le_add ?_ ih)
    rw [Int.natAbs_mul, Int.natAbs_natCast]
    exact Nat.mul_le_mul_left _ (cnt_le t e.1)
/-! terms taken so often -/
def scale (k : Int) (ts : Terms) : Terms := ts.map fun e => (e.1, k * e.2)
theorem scale_tot (k : Int) (w : Wd) : ∀ ts : Terms, tot (scale k ts) w = k * tot ts w
  | [] => by simp [scale, tot]
  | e :: r => by
    show (if e.1 = w then k * e.2 else 0) + tot (scale k r) w = k * ((if e.1 = w then e.2 else 0) + tot r w)
    rw [scale_tot k w r, Int.mul_add]
    split <;> simp
theorem scale_nf {k : Int} (hk : k ≠ 0) {ts : Terms} (h : Nf ts) : Nf (scale k ts) := by
  refine ⟨?_, fun e he => ?_⟩
  · have : (scale k ts).map (·.1) = ts.map (·.1) := by unfold scale; rw [List.map_map]; rfl
    rw [this]
    exact h.1
  · obtain ⟨x, hx, rfl⟩ := List.mem_map.mp he
    exact Int.mul_ne_zero hk (h.2 x hx)
theorem gcd_scale (k : Int) {ts : Terms} (h : Nf ts) : gcdL ((nf (scale k ts)).map (·.2)) = k.natAbs * gcdL (ts.map (·.2)) := by
  by_cases hk : k = 0
  · subst hk
    have : nf (scale 0 ts) = [] := (nf_eq (us := []) (ts := scale 0 ts) ⟨List.Pairwise.nil, fun e he => by cases he⟩ fun w => by rw [scale_tot, Int.zero_mul]; rfl).symm
    rw [this]
    simp [gcdL]
  · rw [nf_id (scale_nf hk h), ← gcdL_mul]
    unfold scale
    rw [List.map_map, List.map_map]
    rfl
/-! all texts -/
theorem mem_wd {L : List Nat} : ∀ (n : Nat) (u : List Nat), u.length = n → (∀ c ∈ u, c ∈ L) → u ∈ Lx.wd L n
  | 0, u, h, _ => by
    rw [List.length_eq_zero_iff.mp h]
    exact List.mem_singleton.mpr rfl
  | n + 1, u, h, hc => by
    have ne : u ≠ [] := fun z => by rw [z] at h; cases h
    rw [Lx.wd, List.mem_flatMap]
    refine ⟨u.dropLast, mem_wd n _ (by rw [List.length_dropLast]; omega) fun c hx => hc c (List.dropLast_subset u hx), ?_⟩
    rw [List.mem_map]
    exact ⟨u.getLast ne, hc _ (List.getLast_mem ne), List.dropLast_concat_getLast ne⟩
def upto (L : List Nat) : Nat → List (List Nat)
  | 0 => [[]]
  | n + 1 => upto L n ++ Lx.wd L (n + 1)
theorem mem_upto {L : List Nat} (u : List Nat) (hc : ∀ c ∈ u, c ∈ L) : ∀ n, u.length ≤ n → u ∈ upto L n
  | 0, h => by
    rw [List.length_eq_zero_iff.mp (Nat.le_zero.mp h)]
    exact List.mem_singleton.mpr rfl
  | n + 1, h => by
    rw [upto, List.mem_append]
    by_cases z : u.length ≤ n
    · exact .inl (mem_upto u hc n z)
    · exact .inr (mem_wd (n + 1) u (by omega) hc)
theorem upto_len (L : List Nat) (u : List Nat) : ∀ n, u ∈ upto L n → u.length ≤ n
  | 0, h => by rw [List.mem_singleton.mp h]; exact Nat.le_refl _
  | n + 1, h => by
    rw [upto, List.mem_append] at h
    rcases h with h | h
    · exact Nat.le_succ_of_le (upto_len L u n h)
    · exact Nat.le_of_eq (Lx.wd_size L (n + 1) u h)
end Gm
set_option Elab.async false
set_option linter.all false
set_option maxRecDepth 100000
set_option maxHeartbeats 4000000
/-! Tm10: mixtures of words, products of sums -/
namespace Tm
open Mx
theorem tot_cons (e : Wd × Int) (r : Terms) (w : Wd) : tot (e :: r) w = (if e.1 = w then e.2 else 0) + tot r w := rfl
/-- a letter behind each word -/
def behind (ts : Terms) (c : Nat) : Terms := ts.map fun e => (e.1 ++ [c], e.2)
theorem behind_tot (c : Nat) (w : Wd) (d : Nat) : ∀ ts : Terms, tot (behind ts c) (w ++ [d]) = if c = d then tot ts w else 0
  | [] => by simp [behind, tot]
  | e :: r => by
    have ih := behind_tot c w d r
    show (if e.1 ++ [c] = w ++ [d] then e.2 else 0) + tot (behind r c) (w ++ [d]) = _
    rw [ih, tot_cons]
    by_cases h : c = d
    · subst h
      rw [if_pos rfl, if_pos rfl]
      by_cases g : e.1 = w
      · rw [if_pos g, if_pos (by rw [g])]
      · rw [if_neg g, if_neg (fun z => g (List.append_cancel_right z))]
    · rw [if_neg h, if_neg h, if_neg (fun z => h (by have := List.append_inj_right' z rfl; simpa using this))]
      rfl
theorem behind_tot_nil (c : Nat) : ∀ ts : Terms, tot (behind ts c) [] = 0
  | [] => rfl
  | e :: r => by
    show (if e.1 ++ [c] = [] then e.2 else 0) + tot (behind r c) [] = 0
    rw [behind_tot_nil c r, if_neg (by simp)]
    rfl
theorem behind_worth (c d : Nat) (p : Wd) : ∀ ts : Terms, worth (behind ts c) (p ++ [d]) = worth (behind ts c) p + if c = d then worth ts p else 0
  | [] => by simp [behind, worth]
  | e :: r => by
    have ih := behind_worth c d p r
    show worth ((e.1 ++ [c], e.2) :: behind r c) (p ++ [d]) = worth ((e.1 ++ [c], e.2) :: behind r c) p + _
    rw [worth_cons, worth_cons, ih, worth_cons, cnt_snoc]
    dsimp only
    by_cases h : c = d
    · rw [if_pos h, if_pos h, if_pos h, Int.natCast_add, Int.mul_add]
      omega
    · rw [if_neg h, if_neg h, if_neg h]
      simp
theorem behind_worth_nil (c : Nat) : ∀ ts : Terms, worth (behind ts c) [] = 0
  | [] => rfl
  | e :: r => by
    show worth ((e.1 ++ [c], e.2) :: behind r c) [] = 0
    rw [worth_cons, behind_worth_nil c r, cnt_empty _ (by simp)]
    simp
/-- the mixture of two words, both turned about -/
def mx : Wd → Wd → Terms
  | [], v => [(v.reverse, 1)]
  | a :: u, [] => [((a :: u).reverse, 1)]
  | a :: u, b :: v => behind (mx u (b :: v)) a ++ behind (mx (a :: u) v) b ++ (if a = b then behind (mx u v) a else [])
termination_by u v => u.length + v.length
theorem mx_l (v : Wd) : mx [] v = [(v.reverse, 1)] := by rw [mx]
theorem mx_r (u : Wd) : mx u [] = [(u.reverse, 1)] := by
  cases u with
  | nil => rw [mx]
  | cons a u => rw [mx]
theorem mx_c (a b : Nat) (u v : Wd) : mx (a :: u) (b :: v) = behind (mx u (b :: v)) a ++ behind (mx (a :: u) v) b ++ (if a = b then behind (mx u v) a else []) := by rw [mx]
theorem one_worth (w t : Wd) : worth [(w, 1)] t = ((cnt w t : Nat) : Int) := by
  rw [worth_cons]
  show 1 * ((cnt w t : Nat) : Int) + 0 = _
  omega
theorem mx_worth_nil (u v : Wd) : worth (mx u v) [] = ((cnt u.reverse [] : Nat) : Int) * ((cnt v.reverse [] : Nat) : Int) := by
  cases u with
  | nil => rw [mx_l, one_worth, List.reverse_nil, cnt_nil]; simp
  | cons a u =>
    cases v with
    | nil => rw [mx_r, one_worth, List.reverse_nil, cnt_nil]; simp
    | cons b v =>
      rw [mx_c, worth_app, worth_app, behind_worth_nil, behind_worth_nil, cnt_empty (a :: u).reverse (by simp)]
      split
      · rw [behind_worth_nil]; simp
      · simp [worth]
theorem mx_worth : ∀ (t u v : Wd), worth (mx u v) t.reverse = ((cnt u.reverse t.reverse : Nat) : Int) * ((cnt v.reverse t.reverse : Nat) : Int)
  | [], u, v => mx_worth_nil u v
  | c :: t, [], v => by rw [mx_l, one_worth, List.reverse_nil, cnt_nil]; simp
  | c :: t, a :: u, [] => by rw [mx_r, one_worth, List.reverse_nil, cnt_nil]; simp
  | c :: t, a :: u, b :: v => by
    have i1 := mx_worth t u (b :: v)
    have i2 := mx_worth t (a :: u) v
    have i3 := mx_worth t u v
    have i4 := mx_worth t (a :: u) (b :: v)
    have ee : ∀ x y : Wd, x.reverse ++ [c] = y.reverse ++ [c] ↔ x.reverse = y.reverse := fun x y => ⟨List.append_cancel_right, fun h => by rw [h]⟩
    rw [mx_c, worth_app, worth_app] at i4 ⊢
    rw [List.reverse_cons (a := c), behind_worth, behind_worth, i1, i2]
    have e1 : cnt (a :: u).reverse (t.reverse ++ [c]) = cnt (a :: u).reverse t.reverse + if a = c then cnt u.reverse t.reverse else 0 := by rw [List.reverse_cons, cnt_snoc]
    have e2 : cnt (b :: v).reverse (t.reverse ++ [c]) = cnt (b :: v).reverse t.reverse + if b = c then cnt v.reverse t.reverse else 0 := by rw [List.reverse_cons, cnt_snoc]
    rw [e1, e2]
    have e3 : worth (if a = b then behind (mx u v) a else []) (t.reverse ++ [c]) = worth (if a = b then behind (mx u v) a else []) t.reverse + if a = b then (if a = c then ((cnt u.reverse t.reverse : Nat) : Int) * ((cnt v.reverse t.reverse : Nat) : Int) else 0) else 0 := by
      by_cases h : a = b
      · rw [if_pos h, if_pos h, behind_worth, i3]
      · rw [if_neg h, if_neg h]
        simp [worth]
    rw [e3]
    generalize worth (behind (mx u (b :: v)) a) t.reverse = A at *
    generalize worth (behind (mx (a :: u) v) b) t.reverse = B at *
    generalize worth (if a = b then behind (mx u v) a else []) t.reverse = C at *
    generalize cnt (a :: u).reverse t.reverse = p at *
    generalize cnt (b :: v).reverse t.reverse = q at *
    generalize cnt u.reverse t.reverse = x at *
    generalize cnt v.reverse t.reverse = y at *
    simp only [Int.natCast_add]
    by_cases ac : a = c <;> by_cases bc : b = c
    · have ab : a = b := by omega
      rw [if_pos ac, if_pos bc, if_pos ab, if_pos ac, if_pos ac, if_pos bc, Int.add_mul, Int.mul_add, Int.mul_add]
      omega
    · have ab : a ≠ b := by omega
      rw [if_pos ac, if_neg bc, if_neg ab, if_pos ac, if_neg bc, Int.add_mul]
      simp only [Int.natCast_zero, Int.add_zero]
      omega
    · have ab : a ≠ b := by omega
      rw [if_neg ac, if_pos bc, if_neg ab, if_neg ac, if_pos bc, Int.mul_add]
      simp only [Int.natCast_zero, Int.add_zero]
      omega
    · rw [if_neg ac, if_neg bc, if_neg ac, if_neg ac, if_neg bc]
      have : (if a = b then (0 : Int) else 0) = 0 := by split <;> rfl
      rw [this]
      simp only [Int.natCast_zero, Int.add_zero]
      omega
theorem mixed (u v t : Wd) : worth (mx u.reverse v.reverse) t = ((cnt u t : Nat) : Int) * ((cnt v t : Nat) : Int) := by
  have := mx_worth t.reverse u.reverse v.reverse
  rwa [List.reverse_reverse, List.reverse_reverse, List.reverse_reverse] at this
theorem behind_mem {ts : Terms} {c : Nat} {e : Wd × Int} (h : e ∈ behind ts c) : ∃ x ∈ ts, e = (x.1 ++ [c], x.2) := by
  obtain ⟨x, hx, rfl⟩ := List.mem_map.mp h
  exact ⟨x, hx, rfl⟩
theorem size_app (a b : Terms) : size (a ++ b) = size a + size b := by
  unfold size
  rw [List.map_append, List.sum_append]
theorem size_behind (c : Nat) (ts : Terms) : size (behind ts c) = size ts := by
  unfold size behind
  rw [List.map_map]
  rfl
theorem mx_words : ∀ (n : Nat) (u v : Wd), u.length + v.length ≤ n → ∀ e ∈ mx u v, e.1.length ≤ u.length + v.length ∧ ∀ c ∈ e.1, c ∈ u ∨ c ∈ v
  | n, [], v, _, e, he => by
    rw [mx_l, List.mem_singleton] at he
    subst he
    exact ⟨by simp, fun c hc => .inr (List.mem_reverse.mp hc)⟩
  | n, a :: u, [], _, e, he => by
    rw [mx_r, List.mem_singleton] at he
    subst he
    exact ⟨by simp, fun c hc => .inl (List.mem_reverse.mp hc)⟩
  | 0, a :: u, b :: v, h, e, he => by simp at h
  | n + 1, a :: u, b :: v, h, e, he => by
    simp only [List.length_cons] at h
    have i1 := mx_words n u (b :: v) (by simp only [List.length_cons]; omega)
    have i2 := mx_words n (a :: u) v (by simp only [List.length_cons]; omega)
    have i3 := mx_words n u v (by omega)
    rw [mx_c] at he
    simp only [List.length_cons] at i1 i2 ⊢
    have put : ∀ (x : Wd × Int) (c : Nat), (c = a ∨ c = b) → (∀ k ∈ x.1, k ∈ a :: u ∨ k ∈ b :: v) → ∀ k ∈ x.1 ++ [c], k ∈ a :: u ∨ k ∈ b :: v := fun x c hc hx k hk => by
      rcases List.mem_append.mp hk with z | z
      · exact hx k z
      · rw [List.mem_singleton] at z
        subst z
        rcases hc with y | y
        · exact .inl (by rw [y]; exact List.mem_cons_self)
        · exact .inr (by rw [y]; exact List.mem_cons_self)
    rcases List.mem_append.mp he with he | he
    · rcases List.mem_append.mp he with he | he
      · obtain ⟨x, hx, rfl⟩ := behind_mem he
        obtain ⟨l, c⟩ := i1 x hx
        refine ⟨by simp; omega, put x a (.inl rfl) fun k hk => (c k hk).imp (List.mem_cons_of_mem _) id⟩
      · obtain ⟨x, hx, rfl⟩ := behind_mem he
        obtain ⟨l, c⟩ := i2 x hx
        refine ⟨by simp; omega, put x b (.inr rfl) fun k hk => (c k hk).imp id (List.mem_cons_of_mem _)⟩
    · split at he
      · obtain ⟨x, hx, rfl⟩ := behind_mem he
        obtain ⟨l, c⟩ := i3 x hx
        refine ⟨by simp; omega, put x a (.inl rfl) fun k hk => (c k hk).imp (List.mem_cons_of_mem _) (List.mem_cons_of_mem _)⟩
      · cases he
theorem mx_size : ∀ (n : Nat) (u v : Wd), u.length + v.length ≤ n → size (mx u v) ≤ 3 ^ n
  | n, [], v, _ => by
    rw [mx_l]
    show 1 + 0 ≤ _
    exact Nat.one_le_pow _ _ (by decide)
  | n, a :: u, [], _ => by
    rw [mx_r]
    show 1 + 0 ≤ _
    exact Nat.one_le_pow _ _ (by decide)
  | 0, a :: u, b :: v, h => by simp at h
  | n + 1, a :: u, b :: v, h => by
    simp only [List.length_cons] at h
    have i1 := mx_size n u (b :: v) (by simp only [List.length_cons]; omega)
    have i2 := mx_size n (a :: u) v (by simp only [List.length_cons]; omega)
    have i3 := mx_size n u v (by omega)
    rw [mx_c, size_app, size_app, size_behind, size_behind, Nat.pow_succ]
    split
    · rw [size_behind]
      omega
    · show _ + _ + 0 ≤ _
      omega
theorem tot_abs (ts : Terms) (w : Wd) : (tot ts w).natAbs ≤ size ts := by
  induction ts with
  | nil => exact Nat.le_refl _
  | cons e r ih =>
    rw [tot_cons, size_cons]
    split <;> omega
/-- a term times a sum -/
def prod1 (e : Wd × Int) (us : Terms) : Terms := us.flatMap fun f => (mx e.1.reverse f.1.reverse).map fun x => (x.1, e.2 * f.2 * x.2)
def prod (ts us : Terms) : Terms := ts.flatMap fun e => prod1 e us
theorem prod_app (a b us : Terms) : prod (a ++ b) us = prod a us ++ prod b us := List.flatMap_append
theorem prod_one (e : Wd × Int) (us : Terms) : prod [e] us = prod1 e us := by unfold prod; rw [List.flatMap_cons, List.flatMap_nil, List.append_nil]
theorem prod1_app (e : Wd × Int) (a b : Terms) : prod1 e (a ++ b) = prod1 e a ++ prod1 e b := List.flatMap_append
theorem worth_times (k : Int) (t : Wd) : ∀ m : Terms, worth (m.map fun x => (x.1, k * x.2)) t = k * worth m t
  | [] => by simp [worth]
  | e :: r => by
    rw [List.map_cons, worth_cons, worth_cons, worth_times k t r, Int.mul_add, Int.mul_assoc]
theorem prod1_worth (e : Wd × Int) (t : Wd) : ∀ us : Terms, worth (prod1 e us) t = e.2 * ((cnt e.1 t : Nat) : Int) * worth us t
  | [] => by simp [prod1, worth]
  | f :: r => by
    show worth ((mx e.1.reverse f.1.reverse).map (fun x => (x.1, e.2 * f.2 * x.2)) ++ prod1 e r) t = _
    rw [worth_app, prod1_worth e t r, worth_times, mixed, worth_cons, Int.mul_add]
    congr 1
    rw [Int.mul_assoc, Int.mul_assoc]
    congr 1
    rw [← Int.mul_assoc, Int.mul_comm f.2, Int.mul_assoc]
theorem prod_worth (us : Terms) (t : Wd) : ∀ ts : Terms, worth (prod ts us) t = worth ts t * worth us t
  | [] => by simp [prod, worth]
  | e :: r => by
    show worth (prod1 e us ++ prod r us) t = _
    rw [worth_app, prod_worth us t r, prod1_worth, worth_cons, Int.add_mul]
/-- sums with the same worths are the same -/
theorem eq_of_worth {ts us : Terms} (h : ∀ t, worth ts t = worth us t) : nf ts = nf us := by
  refine nf_congr fun w => ?_
  have nd := nf_nf (ts ++ Gm.scale (-1) us)
  have z : ∀ e ∈ nf (ts ++ Gm.scale (-1) us), (0 : Int) ∣ e.2 := Gm.dvd_words (Gm.nf_nodup nd) fun e _ => by
    rw [worth_nf, worth_app, h]
    have : worth (Gm.scale (-1) us) e.1 = -1 * worth us e.1 := worth_times (-1) e.1 us
    rw [this]
    exact ⟨0, by omega⟩
  have e0 : nf (ts ++ Gm.scale (-1) us) = [] := by
    cases q : nf (ts ++ Gm.scale (-1) us) with
    | nil => rfl
    | cons e r =>
      rw [q] at z nd
      obtain ⟨k, hk⟩ := z e List.mem_cons_self
      exact absurd (by rw [hk]; omega) (nd.2 e List.mem_cons_self)
  have t0 := nf_tot (ts ++ Gm.scale (-1) us) w
  rw [e0, tot_app, Gm.scale_tot] at t0
  have : tot [] w = 0 := rfl
  omega
theorem prod_mem {ts us : Terms} {x : Wd × Int} (h : x ∈ prod ts us) : ∃ e ∈ ts, ∃ f ∈ us, ∃ y ∈ mx e.1.reverse f.1.reverse, x.1 = y.1 := by
  obtain ⟨e, he, h⟩ := List.mem_flatMap.mp h
  obtain ⟨f, hf, h⟩ := List.mem_flatMap.mp h
  obtain ⟨y, hy, rfl⟩ := List.mem_map.mp h
  exact ⟨e, he, f, hf, y, hy, rfl⟩
theorem prod_words {L : List Nat} {a b : Nat} {ts us : Terms} (h1 : ∀ e ∈ ts, e.1.length ≤ a ∧ ∀ c ∈ e.1, c ∈ L) (h2 : ∀ e ∈ us, e.1.length ≤ b ∧ ∀ c ∈ e.1, c ∈ L) {x : Wd × Int} (h : x ∈ prod ts us) : x.1.length ≤ a + b ∧ ∀ c ∈ x.1, c ∈ L := by
  obtain ⟨e, he, f, hf, y, hy, q⟩ := prod_mem h
  obtain ⟨l, c⟩ := mx_words _ _ _ (Nat.le_refl _) y hy
  rw [List.length_reverse, List.length_reverse] at l
  obtain ⟨l1, c1⟩ := h1 e he
  obtain ⟨l2, c2⟩ := h2 f hf
  rw [q]
  exact ⟨by omega, fun k hk => (c k hk).elim (fun z => c1 k (List.mem_reverse.mp z)) fun z => c2 k (List.mem_reverse.mp z)⟩
theorem size_times (k : Int) : ∀ m : Terms, size (m.map fun x => (x.1, k * x.2)) = k.natAbs * size m
  | [] => rfl
  | e :: r => by
    rw [List.map_cons, size_cons, size_cons, size_times k r, Int.natAbs_mul, Nat.mul_add]
theorem prod1_size {b n : Nat} {e : Wd × Int} (he : e.1.length + b ≤ n) : ∀ {us : Terms}, (∀ f ∈ us, f.1.length ≤ b) → size (prod1 e us) ≤ e.2.natAbs * size us * 3 ^ n
  | [], _ => Nat.zero_le _
  | f :: r, h => by
    show size ((mx e.1.reverse f.1.reverse).map (fun x => (x.1, e.2 * f.2 * x.2)) ++ prod1 e r) ≤ _
    have ih := prod1_size he (us := r) fun x hx => h x (List.mem_cons_of_mem _ hx)
    have hl := h f List.mem_cons_self
    have m := mx_size n e.1.reverse f.1.reverse (by rw [List.length_reverse, List.length_reverse]; omega)
    rw [size_app, size_times, size_cons, Int.natAbs_mul, Nat.mul_add, Nat.add_mul]
    exact Nat.add_le_add (Nat.mul_le_mul_left _ m) ih
theorem prod_size {a b n : Nat} (hn : a + b ≤ n) {us : Terms} (h2 : ∀ f ∈ us, f.1.length ≤ b) : ∀ {ts : Terms}, (∀ e ∈ ts, e.1.length ≤ a) → size (prod ts us) ≤ size ts * size us * 3 ^ n
  | [], _ => Nat.zero_le _
  | e :: r, h => by
    show size (prod1 e us ++ prod r us) ≤ _
    have ih := prod_size hn h2 (ts := r) fun x hx => h x (List.mem_cons_of_mem _ hx)
    have hl := h e List.mem_cons_self
    have m := prod1_size (b := b) (n := n) (e := e) (by omega) h2
    rw [size_app, size_cons, Nat.add_mul, Nat.add_mul]
    exact Nat.add_le_add m ih
/-- lists of unlike members are no longer than what they are taken of -/
theorem nodup_le : ∀ {l m : List Wd}, l.Nodup → (∀ x ∈ l, x ∈ m) → l.length ≤ m.length
  | [], _, _, _ => Nat.zero_le _
  | x :: l, m, nd, h => by
    obtain ⟨n1, n2⟩ := List.nodup_cons.mp nd
    have hm := h x List.mem_cons_self
    have ih := nodup_le (l := l) (m := m.erase x) n2 fun y hy => by
      have ne : y ≠ x := fun z => n1 (z ▸ hy)
      exact (List.mem_erase_of_ne ne).mpr (h y (List.mem_cons_of_mem _ hy))
    rw [List.length_erase_of_mem hm] at ih
    have : 0 < m.length := List.length_pos_of_mem hm
    rw [List.length_cons]
    omega
end Tm
namespace Tm
theorem mx_len : ∀ (n : Nat) (u v : Wd), u.length + v.length ≤ n → (mx u v).length ≤ 3 ^ n
  | n, [], v, _ => by
    rw [mx_l]
    exact Nat.one_le_pow _ _ (by decide)
  | n, a :: u, [], _ => by
    rw [mx_r]
    exact Nat.one_le_pow _ _ (by decide)
  | 0, a :: u, b :: v, h => by simp at h
  | n + 1, a :: u, b :: v, h => by
    simp only [List.length_cons] at h
    have i1 := mx_len n u (b :: v) (by simp only [List.length_cons]; omega)
    have i2 := mx_len n (a :: u) v (by simp only [List.length_cons]; omega)
    have i3 := mx_len n u v (by omega)
    have bl : ∀ (ts : Terms) (c : Nat), (behind ts c).length = ts.length := fun ts c => List.length_map _
    rw [mx_c, List.length_append, List.length_append, bl, bl, Nat.pow_succ]
    split
    · rw [bl]
      omega
    · show _ + _ + 0 ≤ _
      omega
end Tm
set_option Elab.async false
set_option linter.all false
set_option maxRecDepth 100000
set_option maxHeartbeats 8000000
namespace K78
open PySem PySem.Spec PyProof.Rows L2 Evl Bx
section
variable {P : Program} {w : World} {K : PySem.W.Frag} {mg : Str → Option Value} {base : Heap}
theorem ty_lst {H : Hp} {a : Addr} {xs : List V} (h : SqL K H a xs) : TyX K H (.ref a) (.type "list") := by
  rcases h with (h | ⟨o, h⟩) | ⟨o, its, n, h, c, _⟩
  · exact .base (.lst h)
  · exact .base (.frz h)
  · exact .kList h c
theorem lt3_of {L t : List Nat} (l3 : L.length ≤ 3) (h : ∀ c ∈ t, c ∈ L) : lt3 t := by
  refine lt3_sub (s := t) (t := L) ?_ h
  have nd : az.Nodup := by decide
  have nd2 : ((az.filter fun c => decide (c ∈ L)).map fun c => [c]).Nodup := List.pairwise_map.mpr ((List.Pairwise.filter _ nd).imp fun {a b} h z => h (by simpa using z))
  have := Tm.nodup_le nd2 (m := L.map fun c => [c]) fun x hx => by
    obtain ⟨c, hc, rfl⟩ := List.mem_map.mp hx
    exact List.mem_map_of_mem (f := fun c => [c]) (of_decide_eq_true (List.mem_filter.mp hc).2)
  rw [List.length_map, List.length_map] at this
  show (az.filter fun c => decide (c ∈ L)).length ≤ 3
  omega
def sp__law_told_right (K : PySem.W.Frag) : Sp := fun vs H Q _ => ∃ (t : List Nat) (pd : Addr) (ps : List (Nat × Nat)), vs = [tx t, .ref pd] ∧ Low t ∧ t.length ≤ 900 ∧ Rk.Pr t ps ∧ Rk.PL K H pd ps ∧ ∀ H', Ex H H' → Q (.bl true) H'
theorem ok__law_told_right (T : Tx K mg) : Gx.FnG P w K mg base CX0 4 T.a__law_told_right T.fd__law_told_right ["_law_text_here", "_law_due"] (sp__law_told_right K) := by
  refine Gx.okG T.F__law_told_right sc__law_told_right (fun vs H Q E h => ?_) (fun cdv A outer s' H vs Q E gA hr h => ?_)
  · obtain ⟨_, _, _, rfl, _⟩ := h
    rfl
  · obtain ⟨t, pd, ps, rfl, lo, tl, pr, hpd, q⟩ := h
    refine ⟨_, (pss_cons (ps_set (i := 2) sc__law_told_right.nd rfl (by first | exact Or.inl rfl | exact Or.inr rfl) (pe_call (ok_ranks T) (hr.mono (by decide)) (by rfl) T.g_ranks T.F_ranks.kp (b_ranks T) .nil pass0 (pa_cons (pv 0) pa_nil))) (pss_cons (ps_if (PW.pt (pw_or (pt_not (pt_val (pe_callB call_isi (by rfl) T.n_isinstance (by decide +kernel) (pa_cons (pv 2) (pa_cons (pe_bltn (v := .ty "list") (u := .type "list") (by rfl) T.n_list (by decide +kernel) rfl) pa_nil))))) (pw_or1 (pt_not (pt_val (Gx.pe_callG (ok__law_same T) (hr.mono (by decide)) gA (by rfl) T.g__law_same T.F__law_same.kp (b__law_same T) .nil pass0 (pa_cons (pv 2) (pa_cons (pv 1) pa_nil)))))))) (pss_one (ps_ret pe_bl)) pss_nil) (pss_cons (ps_expr (pe_bm PySem.F.plainAttrs_list PySem.F.slot_list_append PySem.F.type_list_append mt_append (pv 2) (pa_cons (pe_tup (pa_cons pe_int (pa_cons pe_int pa_nil))) pa_nil))) (pss_one (ps_ret (Gx.pe_callG (ok__law_same T) (hr.mono (by decide)) gA (by rfl) T.g__law_same T.F__law_same.kp (b__law_same T) .nil pass0 (pa_cons (pe_call (ok_ranks T) (hr.mono (by decide)) (by rfl) T.g_ranks T.F_ranks.kp (b_ranks T) .nil pass0 (pa_cons (pv 0) pa_nil)) (pa_cons (pv 1) pa_nil)))))))), ?_⟩
    have ok := Rk.dP_ok (ps := ps) (by rw [pr.len]; omega) fun e he => by have := pr.small e he; omega
    refine ⟨_, rfl, t, rfl, lo, tl, fun p1 ps1 H1 e1 n1 pr1 h1 => ?_⟩
    cases pr1.one pr
    obtain ⟨vs, hv, tw⟩ := h1
    refine ⟨_, rfl, _, _, .type "list", _, true, rfl, .ty _, ty_lst (.inl (.inl hv)), kit_ty (by decide +kernel), true, rfl, iteF ?_⟩
    refine ⟨_, rfl, _, rfl, .ref p1, .ref pd, Rk.dP ps, rfl, Rk.PL.dp ⟨vs, hv, tw⟩, (hpd.ex e1).dp, ok.1, ok.2.1, ok.2.2, true, rfl, iteF ?_⟩
    refine ⟨_, rfl, .inl ⟨rfl, _, .inl (.inl hv)⟩, sz_of (by show 2 ≤ 100000; omega), fun a na => ?_⟩
    have vl := tw.len
    have x2 := ex_upd (o := .tup [V.int 7, V.int 7]) na
    refine ⟨p1, _, _, rfl, rfl, x2 _ _ hv, by rw [vl, pr.len]; exact sz_lt (by omega), ?_⟩
    have e3 := (e1.trans x2).mut n1 (o := .lst (vs ++ [V.ref a]))
    refine ⟨_, rfl, t, rfl, lo, tl, fun p2 ps2 H4 e4 n2 pr2 h2 => ?_⟩
    cases pr2.one pr
    exact ⟨_, rfl, .ref p2, .ref pd, Rk.dP ps, rfl, h2.dp, (hpd.ex (e3.trans e4)).dp, ok.1, ok.2.1, ok.2.2, q H4 (e3.trans e4)⟩
theorem go_lt {d : Nat} {ps : List (Nat × Nat)} : ∀ n ∈ Rk.go d ps, n < ps.length := fun n hn => List.mem_range.mp (List.mem_filter.mp hn).1
theorem go_len (d : Nat) (ps : List (Nat × Nat)) : (Rk.go d ps).length ≤ ps.length := by
  have := List.length_filter_le (fun i => decide (d + 1 < (ps.getD i (0, 0)).1 + (ps.getD i (0, 0)).2)) (List.range ps.length)
  rw [List.length_range] at this
  exact this
theorem go_ok {d : Nat} {t : List Nat} {ps : List (Nat × Nat)} (h : Rk.Pr t ps) (tl : t.length ≤ 900) : (Rk.dN (Rk.go d ps)).showable = true ∧ (Rk.dN (Rk.go d ps)).shown.length ≤ sizeLine ∧ (Rk.dN (Rk.go d ps)).depth ≤ 60 := by
  have pl := h.len
  refine Rk.dN_ok (by have := go_len d ps; omega) fun n hn => ?_
  have := go_lt n hn
  omega
theorem vn_dp {H : Hp} {p : Addr} {ns : List Nat} (h : H p = some (.lst (vn ns))) : Dp K H (.ref p) (Rk.dN ns) := .lst (.inl (.inl h)) (Rk.dp_ns ns)
def sp__law_right (K : PySem.W.Frag) : Sp := fun vs H Q _ => ∃ (g : Addr) (n : Nat), vs = [.ref g] ∧ Gen H g n ∧ n ≤ 2 ^ 37 ∧ ∀ H', Xg g H H' → Gen H' g (n + 1000) → Q (.bl true) H'
theorem ok__law_right (T : Tx K mg) : Gx.FnG P w K mg base CX0 6 T.a__law_right T.fd__law_right ["_law_generator_here"] (sp__law_right K) := by
  refine Gx.okG T.F__law_right sc__law_right (fun vs H Q E h => ?_) (fun cdv A outer s' H vs Q E gA hr h => ?_)
  · obtain ⟨_, _, rfl, _⟩ := h
    rfl
  · obtain ⟨g, n, rfl, gn, n1, q⟩ := h
    refine ⟨_, (pss_cons (ps_set (i := 1) sc__law_right.nd rfl (by first | exact Or.inl rfl | exact Or.inr rfl) (pe_call (ok__law_letters T) (hr.mono (by decide)) (by rfl) T.g__law_letters T.F__law_letters.kp (b__law_letters T) .nil pass0 (pa_cons (pv 0) (pa_cons pe_int (pa_cons pe_int pa_nil))))) (pss_cons (ps_par (i := 2) (j := 3) (by rfl) sc__law_right.nd rfl rfl (by decide) (by rfl) (by rfl) (pa_cons (pe_call (ok__law_text T) (hr.mono (by decide)) (by rfl) T.g__law_text T.F__law_text.kp (b__law_text T) .nil pass0 (pa_cons (pv 0) (pa_cons (pv 1) (pa_cons pe_int (pa_cons pe_int pa_nil))))) (pa_cons (pe_call (ok__law_random T) (hr.mono (by decide)) (by rfl) T.g__law_random T.F__law_random.kp (b__law_random T) .nil pass0 (pa_cons (pv 0) (pa_cons pe_int pa_nil))) pa_nil)) (by rfl)) (pss_cons (ps_set (i := 4) sc__law_right.nd rfl (by first | exact Or.inl rfl | exact Or.inr rfl) (pe_call (ok__law_ranks T) (hr.mono (by decide)) (by rfl) T.g__law_ranks T.F__law_ranks.kp (b__law_ranks T) .nil pass0 (pa_cons (pv 2) pa_nil))) (pss_cons (ps_if (pt_not (pt_val (Gx.pe_callG (ok__law_told_right T) (hr.mono (by decide)) gA (by rfl) T.g__law_told_right T.F__law_told_right.kp (b__law_told_right T) .nil pass0 (pa_cons (pv 2) (pa_cons (pv 4) pa_nil))))) (pss_one (ps_ret pe_bl)) pss_nil) (pss_cons (ps_for PassesOwn.never rfl (pi_list (pe_lst (pa_cons (pv 3) (pa_cons (pe_callB call_len_str (by rfl) T.n_len (by decide +kernel) (pa_cons (pv 2) pa_nil)) (pa_cons (pe_op Rx.op_powB pe_int pe_int) pa_nil))))) (pg_name (i := 5) sc__law_right.nd rfl (by first | exact Or.inl rfl | exact Or.inr rfl)) (pss_cons (ps_par (i := 6) (j := 7) (by rfl) sc__law_right.nd rfl rfl (by decide) (by rfl) (by rfl) (pa_cons (pe_call (ok_can_go T) (hr.mono (by decide)) (by rfl) T.g_can_go T.F_can_go.kp (b_can_go T) .nil pass0 (pa_cons (pv 5) (pa_cons (pv 2) pa_nil))) (pa_cons (pe_call (ok__law_goes T) (hr.mono (by decide)) (by rfl) T.g__law_goes T.F__law_goes.kp (b__law_goes T) .nil pass0 (pa_cons (pe_callB (call_min2 rfl) (by rfl) T.n_min (by decide +kernel) (pa_cons (pv 5) (pa_cons (pe_op op_add (pe_callB call_len_str (by rfl) T.n_len (by decide +kernel) (pa_cons (pv 2) pa_nil)) pe_int) pa_nil))) (pa_cons (pv 2) pa_nil))) pa_nil)) (by rfl)) (pss_cons (ps_if (PW.pt (pw_or (pt_not (pt_val (pe_callB call_isi (by rfl) T.n_isinstance (by decide +kernel) (pa_cons (pv 6) (pa_cons (pe_bltn (v := .ty "list") (u := .type "list") (by rfl) T.n_list (by decide +kernel) rfl) pa_nil))))) (pw_or1 (pt_not (pt_val (Gx.pe_callG (ok__law_same T) (hr.mono (by decide)) gA (by rfl) T.g__law_same T.F__law_same.kp (b__law_same T) .nil pass0 (pa_cons (pv 6) (pa_cons (pv 7) pa_nil)))))))) (pss_one (ps_ret pe_bl)) pss_nil) (pss_cons (ps_if (pt_cmpR (op_neD hr.units) (pv 7) (pe_lc (own := [("_law_at", 8), ("_law_pair", 9)]) (g := (gTup K 2 (gCons (gName 8) (gCons (gName 9) gNil))))  rfl sc__law_right.nd (pi_enum (by rfl) T.n_enumerate (pa_cons (pv 4) pa_nil)) (blkOk_by (own := [("_law_at", 8), ("_law_pair", 9)]) (N := N__law_right) (sc := defScope s__law_right) (by decide +kernel)) (fun _ _ _ _ _ => (pg_tup (by rfl) (pgs_cons (pg_name (i := 8) sc__law_right.nd rfl (by first | exact Or.inl rfl | exact Or.inr rfl)) (pgs_cons (pg_name (i := 9) sc__law_right.nd rfl (by first | exact Or.inl rfl | exact Or.inr rfl)) pgs_nil)))) (fun _ _ _ _ _ => (pts_one (pt_cmpR op_gt (pe_op op_add (pe_ix (ix_tup : IxR _ (rIxT K)) (pv 9) pe_int (fun _ _ => rfl)) (pe_ix (ix_tup : IxR _ (rIxT K)) (pv 9) pe_int (fun _ _ => rfl))) (pe_op op_add (pv 5) pe_int) (nomark _)))) (fun _ _ _ _ _ => (pv 8))) (nomark _)) (pss_one (ps_ret pe_bl)) pss_nil) (pss_cons (ps_expr (pe_bm PySem.F.plainAttrs_list PySem.F.slot_list_append PySem.F.type_list_append mt_append (pv 6) (pa_cons pe_int pa_nil))) (pss_one (ps_if (pt_not (pt_val (Gx.pe_callG (ok__law_same T) (hr.mono (by decide)) gA (by rfl) T.g__law_same T.F__law_same.kp (b__law_same T) .nil pass0 (pa_cons (pe_call (ok_can_go T) (hr.mono (by decide)) (by rfl) T.g_can_go T.F_can_go.kp (b_can_go T) .nil pass0 (pa_cons (pv 5) (pa_cons (pv 2) pa_nil))) (pa_cons (pv 7) pa_nil))))) (pss_one (ps_ret pe_bl)) pss_nil))))))) (pss_one (ps_ret pe_bl))))))), ?_⟩
    refine ⟨_, rfl, g, 1, 3, n, rfl, by decide, by decide, gn, by omega, fun L H1 loL up L1 L3 x1 g1 => ?_⟩
    refine ⟨_, rfl, _, rfl, g, L, 0, 7, _, rfl, L1, by omega, by omega, by omega, g1, by omega, fun t H2 t0 t7 tL x2 g2 => ?_⟩
    refine ⟨_, rfl, g, 6, _, rfl, by decide, by decide, g2, by omega, fun r H3 r0 r1 x3 g3 => ?_⟩
    obtain ⟨d, rfl⟩ := Int.eq_ofNat_of_zero_le r0
    refine ⟨_, _, rfl, ?_⟩
    have lo : Low t := loL.sub tL
    have l3 := lt3_of L3 tL
    have x03 := (x1.trans x2).trans x3
    have g03 := g3.up (m := n + 1000) (by omega)
    clear x1 x2 x3 g1 g2 g3 gn
    refine ⟨_, rfl, t, rfl, lo, t7, l3, fun pd ps H4 e4 _ pr hpd => ?_⟩
    refine ⟨_, rfl, _, rfl, t, pd, ps, rfl, lo, by omega, pr, hpd, fun H5 e5 => ⟨true, rfl, iteF ?_⟩⟩
    have SZ : (mk t).length ≤ sizeLine := by rw [mk_len]; exact sz_of (by omega)
    have e35 := e4.trans e5
    have hpd5 := hpd.ex e5
    clear hpd e4 e5
    refine ⟨_, rfl, _, rfl, mk t, rfl, SZ, _, _, rfl, rfl, ⟨by decide, by decide +kernel⟩, ?_⟩
    refine ⟨sz_of (by show 3 ≤ 100000; omega), fun pl npl => ⟨pl, rfl, ⟨_, .inl (.inl upd_same)⟩, ?_⟩⟩
    have x6 := ex_upd (o := .lst [V.int ((d : Nat) : Int), V.int (((mk t).length : Nat) : Int), V.int ((10 : Int) ^ (29 : Int).toNat)]) npl
    have hpl : upd H5 pl (.lst [V.int ((d : Nat) : Int), V.int (((mk t).length : Nat) : Int), V.int ((10 : Int) ^ (29 : Int).toNat)]) pl = some (.lst [V.int ((d : Nat) : Int), V.int (((mk t).length : Nat) : Int), V.int ((10 : Int) ^ (29 : Int).toNat)]) := upd_same
    have all : ∀ (j : Nat) (v : V), [V.int ((d : Nat) : Int), V.int (((mk t).length : Nat) : Int), V.int ((10 : Int) ^ (29 : Int).toNat)][j]? = some v → ∃ m : Nat, v = V.int ((m : Nat) : Int) := fun j v h => by
      match j with
      | 0 => cases h; exact ⟨_, rfl⟩
      | 1 => cases h; exact ⟨_, rfl⟩
      | 2 => cases h; exact ⟨10 ^ 29, rfl⟩
      | j + 3 => cases h
    refine for_list (xs := [V.int ((d : Nat) : Int), V.int (((mk t).length : Nat) : Int), V.int ((10 : Int) ^ (29 : Int).toNat)]) (fun j σ H6 => ∃ y5 y6 y7 y8 y9 : Option V, σ = [some (.ref g), some (tx L), some (tx t), some (.int (d : Nat)), some (.ref pd), y5, y6, y7, y8, y9] ∧ Ex (upd H5 pl (.lst [V.int ((d : Nat) : Int), V.int (((mk t).length : Nat) : Int), V.int ((10 : Int) ^ (29 : Int).toNat)])) H6) ⟨_, _, _, _, _, rfl, Ex.refl _⟩ (fun j σ H6 _ ⟨_, _, _, _, _, _, h⟩ => .inl (.inl (h _ _ hpl))) (fun j v σ H6 hv2 ⟨y5, y6, y7, y8, y9, hσ, e6⟩ => ?_) (fun σ H6 ⟨y5, y6, y7, y8, y9, hσ, e6⟩ => ?_)
    · subst hσ
      obtain ⟨m, rfl⟩ := all j v hv2
      have e56 := x6.trans e6
      refine ⟨_, rfl, _, rfl, m, t, rfl, lo, by omega, fun p1 ps1 H7 e7 n7 pr7 h7 => ?_⟩
      cases pr7.one pr
      have em : (if ((t.length : Nat) : Int) + 1 < ((m : Nat) : Int) then ((t.length : Nat) : Int) + 1 else ((m : Nat) : Int)) = ((min m (t.length + 1) : Nat) : Int) := by
        by_cases z : t.length + 1 < m
        · rw [if_pos (by omega), Nat.min_eq_right (by omega)]
          rfl
        · rw [if_neg (by omega), Nat.min_eq_left (by omega)]
      refine ⟨_, rfl, _, rfl, mk t, rfl, SZ, _, 1, rfl, rfl, _, _, rfl, _, rfl, min m (t.length + 1), t, by rw [← em, mk_len]; rfl, lo, t7, l3, fun p2 H8 e8 n8 h8 => ?_⟩
      have h2 := h8 ps pr
      rw [Rk.go_cap pr] at h2
      refine ⟨_, _, rfl, ?_⟩
      have h1 := e8 _ _ h7
      have ok := go_ok (d := m) pr (by omega)
      have gl := go_len m ps
      have pln := pr.len
      refine ⟨_, rfl, _, _, .type "list", _, true, rfl, .ty _, ty_lst (.inl (.inl h1)), kit_ty (by decide +kernel), true, rfl, iteF ?_⟩
      refine ⟨_, rfl, _, rfl, .ref p1, .ref p2, Rk.dN (Rk.go m ps), rfl, vn_dp h1, vn_dp h2, ok.1, ok.2.1, ok.2.2, true, rfl, iteF ?_⟩
      have e78 := e7.trans e8
      obtain ⟨vs, hv0, tw0⟩ := hpd5.ex (e56.trans e78)
      have hv : H8 pd = some (.lst vs) := hv0
      have tw : Nd.TW K H8 Rk.fP vs ps := tw0
      clear hv0 tw0
      have vl := tw.len
      refine ⟨_, rfl, _, rfl, pd, vs, rfl, .inl (.inl hv), fun D nD => ?_⟩
      refine lc_it (walk_enum (K := K) (a := pd) (xs := vs)) (fun i H' => Ex H8 H' ∧ H' D = some (.lst (vn ((List.range i).filter fun j => decide (m + 1 < (ps.getD j (0, 0)).1 + (ps.getD j (0, 0)).2))))) ⟨ex_upd nD, upd_same⟩ (fun i H' _ h => .inl (.inl (h.1 _ _ hv))) (fun i x Ha Hb hi hp y => ?_) (fun Ha hp => ?_)
      · obtain ⟨T1, v1, v2, rfl, nT, rfl, ev1, ev2⟩ := y
        obtain ⟨ea, hD⟩ := hp
        cases ev1
        obtain ⟨e, qa, he, rfl, ht⟩ := tw.at ev2
        have T1D : T1 ≠ D := fun z => by rw [z, hD] at nT; cases nT
        have ht2 : SqT K (upd Ha T1 (.tup [V.int ((i : Nat) : Int), V.ref qa])) qa (Rk.fP e) := ex_t (ex_upd nT) (ex_t ea ht)
        refine ⟨T1, _, rfl, .inl (.inl upd_same), rfl, _, _, rfl, _, _, rfl, rfl, rfl, ?_⟩
        refine ⟨_, rfl, qa, _, 0, _, rfl, rfl, ht2, atI_nat (j := 0) rfl, _, rfl, qa, _, 1, _, rfl, rfl, ht2, atI_nat (j := 1) rfl, _, _, rfl, rfl, _, rfl, _, 1, rfl, rfl, _, _, rfl, rfl, _, rfl, ?_⟩
        rw [go_take he]
        have hD2 : upd Ha T1 (.tup [V.int ((i : Nat) : Int), V.ref qa]) D = some (HO.lst (vn ((List.range i).filter fun j => decide (m + 1 < (ps.getD j (0, 0)).1 + (ps.getD j (0, 0)).2)))) := by rw [upd_ne T1D.symm]; exact hD
        have ea2 := ea.trans (ex_upd (o := .tup [V.int ((i : Nat) : Int), V.ref qa]) nT)
        by_cases h : m + 1 < e.1 + e.2
        · rw [if_pos h]
          refine ite2 (fun _ => ?_) (fun z => absurd (decide_eq_true (show ((m : Nat) : Int) + 1 < (e.1 : Nat) + (e.2 : Nat) by omega)) z)
          refine ⟨_, rfl, _, hD2, ?_, ea2.mut nD, ?_⟩
          · have := List.length_filter_le (fun j => decide (m + 1 < (ps.getD j (0, 0)).1 + (ps.getD j (0, 0)).2)) (List.range i)
            rw [List.length_range] at this
            rw [List.length_map]
            exact sz_lt (by omega)
          · rw [upd_same]
            show _ = some (HO.lst (List.map _ (_ ++ [i])))
            rw [List.map_append]
            rfl
        · rw [if_neg h, List.append_nil]
          refine ite2 (fun z => ?_) (fun _ => ⟨ea2, hD2⟩)
          have := of_decide_eq_true z
          omega
      · obtain ⟨ea, hD⟩ := hp
        rw [vl] at hD
        have sh : SeqAt.shaped (Rk.dN (Rk.go m ps)) = true := by
          have := Dx.sh_ints ((Rk.go m ps).map fun n => ((n : Nat) : Int))
          unfold Dx.dI at this
          rw [List.map_map] at this
          exact this
        have hDg : Ha D = some (.lst (vn (Rk.go m ps))) := hD
        have h1a := ea _ _ h1
        have h2a := ea _ _ h2
        refine ⟨Rk.dN (Rk.go m ps), Rk.dN (Rk.go m ps), vn_dp h2a, vn_dp hDg, sh, sh, false, Dx.ne_self sh, iteF ?_⟩
        refine ⟨_, rfl, .inl ⟨rfl, _, .inl (.inl h1a)⟩, p1, _, _, rfl, rfl, h1a, by rw [List.length_map]; exact sz_lt (by omega), ?_⟩
        have e68 := e78.trans ea
        have e69 := e68.mut n7 (o := .lst (vn (Rk.go m ps) ++ [V.int 0]))
        have p12 : p2 ≠ p1 := (ex_ne h7 n8).symm
        refine ⟨_, rfl, _, rfl, m, t, rfl, lo, by omega, fun p3 ps3 H9 e9 n9 pr9 h9 => ?_⟩
        cases pr9.one pr
        refine ⟨_, rfl, .ref p3, .ref p2, Rk.dN (Rk.go m ps), rfl, vn_dp h9, vn_dp (e9 _ _ (by rw [upd_ne p12]; exact h2a)), ok.1, ok.2.1, ok.2.2, true, rfl, iteF ?_⟩
        exact ⟨_, _, _, _, _, rfl, e6.trans (e69.trans e9)⟩
    · subst hσ
      exact q H6 (x03.ex (e35.trans (x6.trans e6))) (g03.ex (e35.trans (x6.trans e6)))
end
end K78
set_option Elab.async false
set_option linter.all false
set_option maxRecDepth 100000
set_option maxHeartbeats 8000000
namespace K78
open PySem PySem.Spec PyProof.Rows L2 Evl Bx
section
variable {P : Program} {w : World} {K : PySem.W.Frag} {mg : Str → Option Value} {base : Heap}
def sp__law_long_right (K : PySem.W.Frag) : Sp := fun vs H Q _ => ∃ (g : Addr) (n : Nat), vs = [.ref g] ∧ Gen H g n ∧ n ≤ 2 ^ 37 ∧ ∀ H', Xg g H H' → Q (.bl true) H'
theorem ok__law_long_right (T : Tx K mg) : Gx.FnG P w K mg base CX0 5 T.a__law_long_right T.fd__law_long_right ["_law_generator_here"] (sp__law_long_right K) := by
  refine Gx.okG T.F__law_long_right sc__law_long_right (fun vs H Q E h => ?_) (fun cdv A outer s' H vs Q E gA hr h => ?_)
  · obtain ⟨_, _, rfl, _⟩ := h
    rfl
  · obtain ⟨g, n, rfl, gn, n1, q⟩ := h
    refine ⟨_, (pss_cons (ps_set (i := 1) sc__law_long_right.nd rfl (by first | exact Or.inl rfl | exact Or.inr rfl) (pe_call (ok__law_letters T) (hr.mono (by decide)) (by rfl) T.g__law_letters T.F__law_letters.kp (b__law_letters T) .nil pass0 (pa_cons (pv 0) (pa_cons pe_int (pa_cons pe_int pa_nil))))) (pss_cons (ps_set (i := 2) sc__law_long_right.nd rfl (by first | exact Or.inl rfl | exact Or.inr rfl) (pe_call (ok__law_text T) (hr.mono (by decide)) (by rfl) T.g__law_text T.F__law_text.kp (b__law_text T) .nil pass0 (pa_cons (pv 0) (pa_cons (pv 1) (pa_cons pe_int (pa_cons pe_int pa_nil)))))) (pss_cons (ps_asg (pe_tup (pa_cons (pe_call (ok__law_long_ranks T) (hr.mono (by decide)) (by rfl) T.g__law_long_ranks T.F__law_long_ranks.kp (b__law_long_ranks T) .nil pass0 (pa_cons (pv 2) pa_nil)) (pa_cons (pe_call (ok__law_random T) (hr.mono (by decide)) (by rfl) T.g__law_random T.F__law_random.kp (b__law_random T) .nil pass0 (pa_cons (pv 0) (pa_cons pe_int pa_nil))) pa_nil))) (pg_tup (by rfl) (pgs_cons (pg_name (i := 3) sc__law_long_right.nd rfl (by first | exact Or.inl rfl | exact Or.inr rfl)) (pgs_cons (pg_name (i := 4) sc__law_long_right.nd rfl (by first | exact Or.inl rfl | exact Or.inr rfl)) pgs_nil)))) (pss_cons (ps_if (pt_not (pt_val (Gx.pe_callG (ok__law_told_right T) (hr.mono (by decide)) gA (by rfl) T.g__law_told_right T.F__law_told_right.kp (b__law_told_right T) .nil pass0 (pa_cons (pv 2) (pa_cons (pv 3) pa_nil))))) (pss_one (ps_ret pe_bl)) pss_nil) (pss_one (ps_ret (Gx.pe_callG (ok__law_same T) (hr.mono (by decide)) gA (by rfl) T.g__law_same T.F__law_same.kp (b__law_same T) .nil pass0 (pa_cons (pe_call (ok_can_go T) (hr.mono (by decide)) (by rfl) T.g_can_go T.F_can_go.kp (b_can_go T) .nil pass0 (pa_cons (pv 4) (pa_cons (pv 2) pa_nil))) (pa_cons (pe_lc (own := [("_law_at", 5), ("_law_pair", 6)]) (g := (gTup K 2 (gCons (gName 5) (gCons (gName 6) gNil))))  rfl sc__law_long_right.nd (pi_enum (by rfl) T.n_enumerate (pa_cons (pv 3) pa_nil)) (blkOk_by (own := [("_law_at", 5), ("_law_pair", 6)]) (N := N__law_long_right) (sc := defScope s__law_long_right) (by decide +kernel)) (fun _ _ _ _ _ => (pg_tup (by rfl) (pgs_cons (pg_name (i := 5) sc__law_long_right.nd rfl (by first | exact Or.inl rfl | exact Or.inr rfl)) (pgs_cons (pg_name (i := 6) sc__law_long_right.nd rfl (by first | exact Or.inl rfl | exact Or.inr rfl)) pgs_nil)))) (fun _ _ _ _ _ => (pts_one (pt_cmpR op_gt (pe_op op_add (pe_ix (ix_tup : IxR _ (rIxT K)) (pv 6) pe_int (fun _ _ => rfl)) (pe_ix (ix_tup : IxR _ (rIxT K)) (pv 6) pe_int (fun _ _ => rfl))) (pe_op op_add (pv 4) pe_int) (nomark _)))) (fun _ _ _ _ _ => (pv 5))) pa_nil))))))))), ?_⟩
    refine ⟨_, rfl, g, 1, 6, n, rfl, by decide, by decide, gn, by omega, fun L H1 loL up L1 L3 x1 g1 => ?_⟩
    refine ⟨_, rfl, _, rfl, g, L, 20, 60, _, rfl, L1, by omega, by omega, by omega, g1, by omega, fun t H2 t0 t7 tL x2 g2 => ?_⟩
    have lo : Low t := loL.sub tL
    refine ⟨_, rfl, t, rfl, by omega, fun pd ps H3 e3 npd pr hpd => ?_⟩
    refine ⟨_, rfl, g, 20, _, rfl, by decide, by decide, g2.ex e3, by omega, fun r H4 r0 r1 x4 g4 => ?_⟩
    obtain ⟨d, rfl⟩ := Int.eq_ofNat_of_zero_le r0
    have hpd4 : Rk.PL K H4 pd ps := by
      obtain ⟨vs, h1, h2⟩ := hpd
      have gp := g2.ne npd
      obtain ⟨b', s0, c, hg, _⟩ := g2.ex e3
      refine ⟨vs, x4 _ _ gp.symm h1, h2.imp fun b xs hb => ?_⟩
      rcases hb with (h | ⟨o, h⟩) | h
      · exact .inl (.inl (x4 _ _ (fun z => by rw [z, hg] at h; cases h) h))
      · exact .inl (.inr ⟨o, x4 _ _ (fun z => by rw [z, hg] at h; cases h) h⟩)
      · exact .inr h
    refine ⟨sz_of (by show 2 ≤ 100000; omega), fun a na => ⟨a, _, rfl, .inl (.inl upd_same), rfl, _, _, rfl, _, _, rfl, rfl, ?_⟩⟩
    have x5 := ex_upd (o := .tup [V.ref pd, V.int ((d : Nat) : Int)]) na
    have hpd5 := hpd4.ex x5
    have x05 := (((x1.trans x2).ex e3).trans x4).ex x5
    refine ⟨_, rfl, _, rfl, t, pd, ps, rfl, lo, by omega, pr, hpd5, fun H6 e6 => ⟨true, rfl, iteF ?_⟩⟩
    refine ⟨_, rfl, _, rfl, d, t, rfl, lo, by omega, fun p1 ps1 H7 e7 n7 pr7 h7 => ?_⟩
    cases pr7.one pr
    obtain ⟨vs, hv, tw⟩ := hpd5.ex (e6.trans e7)
    have vl := tw.len
    have gl := go_len d ps
    have pln := pr.len
    refine ⟨_, rfl, pd, vs, rfl, .inl (.inl hv), fun D nD => ?_⟩
    refine lc_it (walk_enum (K := K) (a := pd) (xs := vs)) (fun i H' => Ex H7 H' ∧ H' D = some (.lst (vn ((List.range i).filter fun j => decide (d + 1 < (ps.getD j (0, 0)).1 + (ps.getD j (0, 0)).2))))) ⟨ex_upd nD, upd_same⟩ (fun i H' _ h => .inl (.inl (h.1 _ _ hv))) (fun i x Ha Hb hi hp y => ?_) (fun Ha hp => ?_)
    · obtain ⟨T1, v1, v2, rfl, nT, rfl, ev1, ev2⟩ := y
      obtain ⟨ea, hD⟩ := hp
      cases ev1
      obtain ⟨e, qa, he, rfl, ht⟩ := tw.at ev2
      have T1D : T1 ≠ D := fun z => by rw [z, hD] at nT; cases nT
      have ht2 : SqT K (upd Ha T1 (.tup [V.int ((i : Nat) : Int), V.ref qa])) qa (Rk.fP e) := ex_t (ex_upd nT) (ex_t ea ht)
      refine ⟨T1, _, rfl, .inl (.inl upd_same), rfl, _, _, rfl, _, _, rfl, rfl, rfl, ?_⟩
      refine ⟨_, rfl, qa, _, 0, _, rfl, rfl, ht2, atI_nat (j := 0) rfl, _, rfl, qa, _, 1, _, rfl, rfl, ht2, atI_nat (j := 1) rfl, _, _, rfl, rfl, _, rfl, _, 1, rfl, rfl, _, _, rfl, rfl, _, rfl, ?_⟩
      rw [go_take he]
      have hD2 : upd Ha T1 (.tup [V.int ((i : Nat) : Int), V.ref qa]) D = some (HO.lst (vn ((List.range i).filter fun j => decide (d + 1 < (ps.getD j (0, 0)).1 + (ps.getD j (0, 0)).2)))) := by rw [upd_ne T1D.symm]; exact hD
      have ea2 := ea.trans (ex_upd (o := .tup [V.int ((i : Nat) : Int), V.ref qa]) nT)
      by_cases h : d + 1 < e.1 + e.2
      · rw [if_pos h]
        refine ite2 (fun _ => ?_) (fun z => absurd (decide_eq_true (show ((d : Nat) : Int) + 1 < (e.1 : Nat) + (e.2 : Nat) by omega)) z)
        refine ⟨_, rfl, _, hD2, ?_, ea2.mut nD, ?_⟩
        · have := List.length_filter_le (fun j => decide (d + 1 < (ps.getD j (0, 0)).1 + (ps.getD j (0, 0)).2)) (List.range i)
          rw [List.length_range] at this
          rw [List.length_map]
          exact sz_lt (by omega)
        · rw [upd_same]
          show _ = some (HO.lst (List.map _ (_ ++ [i])))
          rw [List.map_append]
          rfl
      · rw [if_neg h, List.append_nil]
        refine ite2 (fun z => ?_) (fun _ => ⟨ea2, hD2⟩)
        have := of_decide_eq_true z
        omega
    · obtain ⟨ea, hD⟩ := hp
      rw [vl] at hD
      have ok := go_ok (d := d) pr (by omega)
      exact ⟨.ref p1, .ref D, Rk.dN (Rk.go d ps), rfl, vn_dp (ea _ _ h7), vn_dp hD, ok.1, ok.2.1, ok.2.2, q _ (x05.ex ((e6.trans e7).trans ea))⟩
end
end K78
set_option Elab.async false
set_option linter.all false
set_option maxRecDepth 100000
set_option maxHeartbeats 8000000
namespace K78
open PySem PySem.Spec PyProof.Rows L2 Evl Bx
section
variable {P : Program} {w : World} {K : PySem.W.Frag} {mg : Str → Option Value} {base : Heap}
def sp_law (K : PySem.W.Frag) : Sp := fun vs H Q _ => ∃ (a : Addr) (ns : List Int), vs = [.ref a] ∧ SqL K H a (ns.map V.int) ∧ ns.length ≤ 63 ∧ ∀ H', Q (.bl true) H'
def ab : List Nat := [97, 98]
theorem rank_pos {p : List Nat} {c k : Nat} (h : Rk.Rank p c k) : 1 ≤ k := by
  obtain ⟨⟨w, n, e⟩, _⟩ := h
  obtain ⟨u, rfl, _⟩ := n.last
  rw [List.length_append] at e
  have : [c].length = 1 := rfl
  omega
theorem go_zero {t : List Nat} {ps : List (Nat × Nat)} (h : Rk.Pr t ps) : Rk.go 0 ps = List.range t.length := by
  unfold Rk.go
  rw [h.len]
  refine List.filter_eq_self.mpr fun i hi => ?_
  have il := List.mem_range.mp hi
  have he : ps[i]? = some (ps[i]'(by rw [h.len]; exact il)) := List.getElem?_eq_getElem _
  have ed : ps.getD i (0, 0) = ps[i]'(by rw [h.len]; exact il) := by rw [List.getD_eq_getElem?_getD, he]; rfl
  obtain ⟨_, h1, h2⟩ := h.at he
  have a := rank_pos h1
  have b := rank_pos h2
  rw [ed]
  exact decide_eq_true (by omega)
theorem fr_abba : Rk.Fr [97, 98, 98, 97] [1, 1, 2, 2] := by
  have h1 : Rk.Fr [97] [1] := Rk.Fr.snoc (t := []) (ns := []) Rk.Fr.nil (Rk.rank_one (by decide))
  have h2 : Rk.Fr [97, 98] [1, 1] := Rk.Fr.snoc (t := [97]) (ns := [1]) h1 (Rk.rank_one (by decide))
  have h3 : Rk.Fr [97, 98, 98] [1, 1, 2] := Rk.Fr.snoc (t := [97, 98]) (ns := [1, 1]) h2 (Rk.fr_next (q := [97]) (s := []) (c := 98) (m := 1) h2 (by decide) (by decide) (by decide))
  exact Rk.Fr.snoc (t := [97, 98, 98]) (ns := [1, 1, 2]) h3 (Rk.fr_next (q := []) (s := [98, 98]) (c := 97) (m := 1) h3 (by decide) (by decide) (by decide))
theorem pr_abba : Rk.Pr [97, 98, 98, 97] [(1, 2), (1, 2), (2, 1), (2, 1)] := ⟨_, _, fr_abba, fr_abba, rfl⟩
theorem pr_nil : Rk.Pr [] [] := ⟨_, _, Rk.Fr.nil, Rk.Fr.nil, rfl⟩
def dLaw : PyData := .list [.list [], .list [.int 0, .int 1], .list []]
theorem dLaw_ok : dLaw.showable = true ∧ dLaw.shown.length ≤ sizeLine ∧ dLaw.depth ≤ 60 := ⟨by decide +kernel, by decide +kernel, by decide +kernel⟩
theorem low_ab : Low ab := fun c hc => by simp [ab] at hc; omega
theorem ok_law (T : Tx K mg) : Gx.FnG P w K mg base CX0 7 T.a_law T.fd_law ["_law_script"] (sp_law K) := by
  refine Gx.okG T.F_law sc_law (fun vs H Q E h => ?_) (fun cdv A outer s H vs Q E gA hr h => ?_)
  · obtain ⟨_, _, rfl, _⟩ := h
    rfl
  · obtain ⟨a, ns, rfl, hS, hl, q⟩ := h
    refine ⟨_, (pss_cons (ps_for PassesOwn.never rfl (pi_range1 (by rfl) T.n_range (pa_cons pe_int pa_nil)) (pg_name (i := 1) sc_law.nd rfl (by first | exact Or.inl rfl | exact Or.inr rfl)) (pss_cons (ps_set (i := 2) sc_law.nd rfl (by first | exact Or.inl rfl | exact Or.inr rfl) (pe_call (ok__law_generator T) (hr.mono (by decide)) (by rfl) T.g__law_generator T.F__law_generator.kp (b__law_generator T) .nil pass0 (pa_cons (pv 0) (pa_cons (pv 1) pa_nil)))) (pss_one (ps_if (PW.pt (pw_or (pt_not (pt_val (Gx.pe_callG (ok__law_right T) (hr.mono (by decide)) gA (by rfl) T.g__law_right T.F__law_right.kp (b__law_right T) .nil pass0 (pa_cons (pv 2) pa_nil)))) (pw_or1 (pt_not (pt_val (Gx.pe_callG (ok__law_long_right T) (hr.mono (by decide)) gA (by rfl) T.g__law_long_right T.F__law_long_right.kp (b__law_long_right T) .nil pass0 (pa_cons (pv 2) pa_nil))))))) (pss_one (ps_ret pe_bl)) pss_nil)))) (pss_cons (ps_if (pt_not (pt_val (Gx.pe_callG (ok__law_same T) (hr.mono (by decide)) gA (by rfl) T.g__law_same T.F__law_same.kp (b__law_same T) .nil pass0 (pa_cons (pe_lst (pa_cons (pe_call (ok_ranks T) (hr.mono (by decide)) (by rfl) T.g_ranks T.F_ranks.kp (b_ranks T) .nil pass0 (pa_cons pe_str pa_nil)) (pa_cons (pe_call (ok_can_go T) (hr.mono (by decide)) (by rfl) T.g_can_go T.F_can_go.kp (b_can_go T) .nil pass0 (pa_cons pe_int (pa_cons pe_str pa_nil))) (pa_cons (pe_call (ok_can_go T) (hr.mono (by decide)) (by rfl) T.g_can_go T.F_can_go.kp (b_can_go T) .nil pass0 (pa_cons pe_int (pa_cons pe_str pa_nil))) pa_nil)))) (pa_cons (pe_lst (pa_cons (pe_lst pa_nil) (pa_cons (pe_lst (pa_cons pe_int (pa_cons pe_int pa_nil))) (pa_cons (pe_lst pa_nil) pa_nil)))) pa_nil))))) (pss_one (ps_ret pe_bl)) pss_nil) (pss_cons (ps_set (i := 3) sc_law.nd rfl (by first | exact Or.inl rfl | exact Or.inr rfl) (pe_op Bx.op_repS pe_str pe_int)) (pss_cons (ps_set (i := 4) sc_law.nd rfl (by first | exact Or.inl rfl | exact Or.inr rfl) (pe_call (ok__law_long_ranks T) (hr.mono (by decide)) (by rfl) T.g__law_long_ranks T.F__law_long_ranks.kp (b__law_long_ranks T) .nil pass0 (pa_cons (pv 3) pa_nil))) (pss_one (ps_ret (pe_and (Gx.pe_callG (ok__law_same T) (hr.mono (by decide)) gA (by rfl) T.g__law_same T.F__law_same.kp (b__law_same T) .nil pass0 (pa_cons (pe_call (ok_ranks T) (hr.mono (by decide)) (by rfl) T.g_ranks T.F_ranks.kp (b_ranks T) .nil pass0 (pa_cons (pv 3) pa_nil)) (pa_cons (pv 4) pa_nil))) (pe_one (Gx.pe_callG (ok__law_same T) (hr.mono (by decide)) gA (by rfl) T.g__law_same T.F__law_same.kp (b__law_same T) .nil pass0 (pa_cons (pe_call (ok_ranks T) (hr.mono (by decide)) (by rfl) T.g_ranks T.F_ranks.kp (b_ranks T) .nil pass0 (pa_cons pe_str pa_nil)) (pa_cons (pe_lst (pa_cons (pe_tup (pa_cons pe_int (pa_cons pe_int pa_nil))) (pa_cons (pe_tup (pa_cons pe_int (pa_cons pe_int pa_nil))) (pa_cons (pe_tup (pa_cons pe_int (pa_cons pe_int pa_nil))) (pa_cons (pe_tup (pa_cons pe_int (pa_cons pe_int pa_nil))) pa_nil))))) pa_nil))))))))))), ?_⟩
    refine ⟨2, rfl, by decide, by decide, for_range (lo := 0) (n := 2) (fun i σ H2 => ∃ y z, σ = [some (.ref a), y, z, none, none] ∧ Ex H H2) ⟨none, none, rfl, Ex.refl H⟩ (fun i σ H2 hi hp => ?_) (fun σ H2 hp => ?_)⟩
    · obtain ⟨y, z, rfl, e2⟩ := hp
      have e0 : (0 : Int) + (i : Nat) = (i : Nat) := Int.zero_add _
      rw [e0]
      refine ⟨_, rfl, _, rfl, a, ns, i, rfl, ex_l e2 hS, by omega, fun g H3 e3 g0 g3 => ?_⟩
      refine ⟨_, rfl, g, 1000 * i, rfl, g3, by omega, fun H4 x4 g4 => ⟨true, rfl, iteF ?_⟩⟩
      refine ⟨_, rfl, g, _, rfl, g4, by omega, fun H5 x5 => ⟨true, rfl, iteF ⟨_, _, rfl, fun b o hb => ?_⟩⟩⟩
      have h3 := e3 b o (e2 b o hb)
      have bg : b ≠ g := fun z => by
        have := e2 b o hb
        rw [z] at this
        rw [this] at g0
        cases g0
      exact x5 b o bg (x4 b o bg h3)
    · obtain ⟨y, z, rfl, e2⟩ := hp
      have two : 2 ≤ sizeLine := sz_of (by omega)
      have three : 3 ≤ sizeLine := sz_of (by omega)
      have four : 4 ≤ sizeLine := sz_of (by omega)
      refine ⟨[], rfl, Low.nil, by decide, fun p1 ps1 H3 e3 _ pr1 h1 => ?_⟩
      cases pr1.one pr_nil
      refine ⟨0, ab, rfl, low_ab, by decide, fun p2 ps2 H4 e4 _ pr2 h2 => ?_⟩
      rw [go_zero pr2] at h2
      refine ⟨0, [], rfl, Low.nil, by decide, fun p3 ps3 H5 e5 _ pr3 h3 => ?_⟩
      rw [go_zero pr3] at h3
      refine ⟨three, fun p np => ?_⟩
      refine ⟨Nat.zero_le _, fun q1 m1 => ⟨two, fun q2 m2 => ⟨Nat.zero_le _, fun q3 m3 => ⟨three, fun qq m4 => ?_⟩⟩⟩⟩
      have y0 := ex_upd (o := .lst [V.ref p1, V.ref p2, V.ref p3]) np
      have y1 := ex_upd (o := .lst []) m1
      have y2 := ex_upd (o := .lst [V.int 0, V.int 1]) m2
      have y3 := ex_upd (o := .lst []) m3
      have y4 := ex_upd (o := .lst [V.ref q1, V.ref q2, V.ref q3]) m4
      have z3 := y3.trans y4
      have z2 := y2.trans z3
      have z1 := y1.trans z2
      have z0 := y0.trans z1
      obtain ⟨vs1, h1v, tw1⟩ := h1
      have : vs1 = [] := by
        have := tw1.len
        exact List.length_eq_zero_iff.mp this
      subst this
      refine ⟨.ref p, .ref qq, dLaw, rfl, .lst (.inl (.inl (z1 _ _ upd_same))) (.cons (.lst (.inl (.inl (z0 _ _ (e5 _ _ (e4 _ _ h1v))))) .nil) (.cons (.lst (.inl (.inl (z0 _ _ (e5 _ _ h2)))) (.cons (.int _) (.cons (.int _) .nil))) (.cons (.lst (.inl (.inl (z0 _ _ h3))) .nil) .nil))), .lst (.inl (.inl upd_same)) (.cons (.lst (.inl (.inl (z2 _ _ upd_same))) .nil) (.cons (.lst (.inl (.inl (z3 _ _ upd_same))) (.cons (.int _) (.cons (.int _) .nil))) (.cons (.lst (.inl (.inl (y4 _ _ upd_same))) .nil) .nil))), dLaw_ok.1, dLaw_ok.2.1, dLaw_ok.2.2, true, rfl, iteF ?_⟩
      obtain ⟨N, hN⟩ : ∃ N : Nat, N = 150 := ⟨_, rfl⟩
      have e150 : V.int 150 = V.int ((N : Nat) : Int) := by rw [hN]; rfl
      have len : (List.replicate N ab).flatten.length = 2 * N := by rw [len_reps]; show N * 2 = _; omega
      have lowN : Low (List.replicate N ab).flatten := fun c hc => by
        obtain ⟨x, hx, hcx⟩ := List.mem_flatten.mp hc
        rw [List.eq_of_mem_replicate hx] at hcx
        exact low_ab c hcx
      refine ⟨ab, N, rfl, e150, by show 2 * N ≤ 100000; omega, by omega, ?_⟩
      generalize (List.replicate N ab).flatten = t at len lowN
      refine ⟨_, rfl, t, rfl, by omega, fun pd ps H8 e8 _ pr hpd => ?_⟩
      refine ⟨_, rfl, t, rfl, lowN, by omega, fun p4 ps4 H9 e9 _ pr4 h4 => ?_⟩
      cases pr4.one pr
      have ok := Rk.dP_ok (ps := ps) (by rw [pr.len]; omega) fun e he => by have := pr.small e he; omega
      refine ⟨_, rfl, .ref p4, .ref pd, Rk.dP ps, rfl, h4.dp, (hpd.ex e9).dp, ok.1, ok.2.1, ok.2.2, true, rfl, iteT ?_⟩
      refine ⟨[97, 98, 98, 97], rfl, (fun c hc => by simp at hc; omega), by decide, fun p5 ps5 H10 e10 _ pr5 h5 => ?_⟩
      cases pr5.one pr_abba
      refine ⟨two, fun t1 k1 => ⟨two, fun t2 k2 => ⟨two, fun t3 k3 => ⟨two, fun t4 k4 => ⟨four, fun tt k5 => ?_⟩⟩⟩⟩⟩
      have w1 := ex_upd (o := .tup [V.int 1, V.int 2]) k1
      have w2 := ex_upd (o := .tup [V.int 1, V.int 2]) k2
      have w3 := ex_upd (o := .tup [V.int 2, V.int 1]) k3
      have w4 := ex_upd (o := .tup [V.int 2, V.int 1]) k4
      have w5 := ex_upd (o := .lst [V.ref t1, V.ref t2, V.ref t3, V.ref t4]) k5
      have v4 := w4.trans w5
      have v3 := w3.trans v4
      have v2 := w2.trans v3
      have ok2 := Rk.dP_ok (ps := [(1, 2), (1, 2), (2, 1), (2, 1)]) (by decide) (by decide)
      exact ⟨.ref p5, .ref tt, Rk.dP [(1, 2), (1, 2), (2, 1), (2, 1)], rfl, (h5.ex (w1.trans v2)).dp, .lst (.inl (.inl upd_same)) (.cons (.tup (.inl (.inl (v2 _ _ upd_same))) (.cons (.int _) (.cons (.int _) .nil))) (.cons (.tup (.inl (.inl (v3 _ _ upd_same))) (.cons (.int _) (.cons (.int _) .nil))) (.cons (.tup (.inl (.inl (v4 _ _ upd_same))) (.cons (.int _) (.cons (.int _) .nil))) (.cons (.tup (.inl (.inl (w5 _ _ upd_same))) (.cons (.int _) (.cons (.int _) .nil))) .nil)))), ok2.1, ok2.2.1, ok2.2.2, q _⟩
end
theorem all_mk {l : PySem.W.OpenLaw} {w : World} {K : PySem.W.Frag} {h : Heap} {mg : Str → Option Value} {fa : Addr} {f_0 f_1 f_2 f_3 f_4 f_5 f_6 f_7 f_8 f_9 f_10 f_11 f_12 f_13 f_14 f_15 f_16 f_17 f_18 f_19 f_20 f_21 f_22 f_23 f_24 f_25 f_26 f_27 f_28 f_29 : Addr} (X : K.In h) (G : h.Ns mainGlobals mg) (hfa : mg "law" = some (.ref fa))
    {od_0 an_0 : Option Addr} {sl_0 : Array (Option Value)} {oc_0 kV_0 dc_0 pm_0 cd_0 ct_0 : Value}
    (p_0 : PySem.W.nsIn K mainGlobals "_law_row" = some (some (.ref f_0))) (l_0 : K.lookup f_0 = some ⟨oc_0, od_0, .func (PySem.W.fnOf "_law_row" "_law_row" (defArgs s__law_row) (defBody s__law_row) (defScope s__law_row) .none kV_0 dc_0 pm_0 an_0 cd_0 ct_0), sl_0⟩) (c_0 : PySem.W.codeIn K cd_0 "_law_row" = true) (k_0 : PySem.W.keepIn K (.ref f_0) = true)
    {od_1 an_1 : Option Addr} {sl_1 : Array (Option Value)} {oc_1 kV_1 dc_1 pm_1 cd_1 ct_1 : Value}
    (p_1 : PySem.W.nsIn K mainGlobals "_law_long_ranks" = some (some (.ref f_1))) (l_1 : K.lookup f_1 = some ⟨oc_1, od_1, .func (PySem.W.fnOf "_law_long_ranks" "_law_long_ranks" (defArgs s__law_long_ranks) (defBody s__law_long_ranks) (defScope s__law_long_ranks) .none kV_1 dc_1 pm_1 an_1 cd_1 ct_1), sl_1⟩) (c_1 : PySem.W.codeIn K cd_1 "_law_long_ranks" = true) (k_1 : PySem.W.keepIn K (.ref f_1) = true)
    {od_2 an_2 : Option Addr} {sl_2 : Array (Option Value)} {oc_2 kV_2 dc_2 pm_2 cd_2 ct_2 : Value}
    (p_2 : PySem.W.nsIn K mainGlobals "_law_cell" = some (some (.ref f_2))) (l_2 : K.lookup f_2 = some ⟨oc_2, od_2, .func (PySem.W.fnOf "_law_cell" "_law_cell" (defArgs s__law_cell) (defBody s__law_cell) (defScope s__law_cell) .none kV_2 dc_2 pm_2 an_2 cd_2 ct_2), sl_2⟩) (c_2 : PySem.W.codeIn K cd_2 "_law_cell" = true) (k_2 : PySem.W.keepIn K (.ref f_2) = true)
    {od_3 an_3 : Option Addr} {sl_3 : Array (Option Value)} {oc_3 kV_3 dc_3 pm_3 cd_3 ct_3 : Value}
    (p_3 : PySem.W.nsIn K mainGlobals "_law_generator" = some (some (.ref f_3))) (l_3 : K.lookup f_3 = some ⟨oc_3, od_3, .func (PySem.W.fnOf "_law_generator" "_law_generator" (defArgs s__law_generator) (defBody s__law_generator) (defScope s__law_generator) .none kV_3 dc_3 pm_3 an_3 cd_3 ct_3), sl_3⟩) (c_3 : PySem.W.codeIn K cd_3 "_law_generator" = true) (k_3 : PySem.W.keepIn K (.ref f_3) = true)
    {od_4 an_4 : Option Addr} {sl_4 : Array (Option Value)} {oc_4 kV_4 dc_4 pm_4 cd_4 ct_4 : Value}
    (p_4 : PySem.W.nsIn K mainGlobals "_law_same" = some (some (.ref f_4))) (l_4 : K.lookup f_4 = some ⟨oc_4, od_4, .func (PySem.W.fnOf "_law_same" "_law_same" (defArgs s__law_same) (defBody s__law_same) (defScope s__law_same) .none kV_4 dc_4 pm_4 an_4 cd_4 ct_4), sl_4⟩) (c_4 : PySem.W.codeIn K cd_4 "_law_same" = true) (k_4 : PySem.W.keepIn K (.ref f_4) = true)
    {od_5 an_5 : Option Addr} {sl_5 : Array (Option Value)} {oc_5 kV_5 dc_5 pm_5 cd_5 ct_5 : Value}
    (p_5 : PySem.W.nsIn K mainGlobals "is_text" = some (some (.ref f_5))) (l_5 : K.lookup f_5 = some ⟨oc_5, od_5, .func (PySem.W.fnOf "is_text" "is_text" (defArgs s_is_text) (defBody s_is_text) (defScope s_is_text) .none kV_5 dc_5 pm_5 an_5 cd_5 ct_5), sl_5⟩) (c_5 : PySem.W.codeIn K cd_5 "is_text" = true) (k_5 : PySem.W.keepIn K (.ref f_5) = true)
    {od_6 an_6 : Option Addr} {sl_6 : Array (Option Value)} {oc_6 kV_6 dc_6 pm_6 cd_6 ct_6 : Value}
    (p_6 : PySem.W.nsIn K mainGlobals "need_text" = some (some (.ref f_6))) (l_6 : K.lookup f_6 = some ⟨oc_6, od_6, .func (PySem.W.fnOf "need_text" "need_text" (defArgs s_need_text) (defBody s_need_text) (defScope s_need_text) .none kV_6 dc_6 pm_6 an_6 cd_6 ct_6), sl_6⟩) (c_6 : PySem.W.codeIn K cd_6 "need_text" = true) (k_6 : PySem.W.keepIn K (.ref f_6) = true)
    {od_7 an_7 : Option Addr} {sl_7 : Array (Option Value)} {oc_7 kV_7 dc_7 pm_7 cd_7 ct_7 : Value}
    (p_7 : PySem.W.nsIn K mainGlobals "_front_ranks" = some (some (.ref f_7))) (l_7 : K.lookup f_7 = some ⟨oc_7, od_7, .func (PySem.W.fnOf "_front_ranks" "_front_ranks" (defArgs s__front_ranks) (defBody s__front_ranks) (defScope s__front_ranks) .none kV_7 dc_7 pm_7 an_7 cd_7 ct_7), sl_7⟩) (c_7 : PySem.W.codeIn K cd_7 "_front_ranks" = true) (k_7 : PySem.W.keepIn K (.ref f_7) = true)
    {od_8 an_8 : Option Addr} {sl_8 : Array (Option Value)} {oc_8 kV_8 dc_8 pm_8 cd_8 ct_8 : Value}
    (p_8 : PySem.W.nsIn K mainGlobals "_ranks" = some (some (.ref f_8))) (l_8 : K.lookup f_8 = some ⟨oc_8, od_8, .func (PySem.W.fnOf "_ranks" "_ranks" (defArgs s__ranks) (defBody s__ranks) (defScope s__ranks) .none kV_8 dc_8 pm_8 an_8 cd_8 ct_8), sl_8⟩) (c_8 : PySem.W.codeIn K cd_8 "_ranks" = true) (k_8 : PySem.W.keepIn K (.ref f_8) = true)
    {od_9 an_9 : Option Addr} {sl_9 : Array (Option Value)} {oc_9 kV_9 dc_9 pm_9 cd_9 ct_9 : Value}
    (p_9 : PySem.W.nsIn K mainGlobals "ranks" = some (some (.ref f_9))) (l_9 : K.lookup f_9 = some ⟨oc_9, od_9, .func (PySem.W.fnOf "ranks" "ranks" (defArgs s_ranks) (defBody s_ranks) (defScope s_ranks) .none kV_9 dc_9 pm_9 an_9 cd_9 ct_9), sl_9⟩) (c_9 : PySem.W.codeIn K cd_9 "ranks" = true) (k_9 : PySem.W.keepIn K (.ref f_9) = true)
    {od_10 an_10 : Option Addr} {sl_10 : Array (Option Value)} {oc_10 kV_10 dc_10 pm_10 cd_10 ct_10 : Value}
    (p_10 : PySem.W.nsIn K mainGlobals "_law_hash" = some (some (.ref f_10))) (l_10 : K.lookup f_10 = some ⟨oc_10, od_10, .func (PySem.W.fnOf "_law_hash" "_law_hash" (defArgs s__law_hash) (defBody s__law_hash) (defScope s__law_hash) .none kV_10 dc_10 pm_10 an_10 cd_10 ct_10), sl_10⟩) (c_10 : PySem.W.codeIn K cd_10 "_law_hash" = true) (k_10 : PySem.W.keepIn K (.ref f_10) = true)
    {od_11 an_11 : Option Addr} {sl_11 : Array (Option Value)} {oc_11 kV_11 dc_11 pm_11 cd_11 ct_11 : Value}
    (p_11 : PySem.W.nsIn K mainGlobals "_law_random" = some (some (.ref f_11))) (l_11 : K.lookup f_11 = some ⟨oc_11, od_11, .func (PySem.W.fnOf "_law_random" "_law_random" (defArgs s__law_random) (defBody s__law_random) (defScope s__law_random) .none kV_11 dc_11 pm_11 an_11 cd_11 ct_11), sl_11⟩) (c_11 : PySem.W.codeIn K cd_11 "_law_random" = true) (k_11 : PySem.W.keepIn K (.ref f_11) = true)
    {od_12 an_12 : Option Addr} {sl_12 : Array (Option Value)} {oc_12 kV_12 dc_12 pm_12 cd_12 ct_12 : Value}
    (p_12 : PySem.W.nsIn K mainGlobals "_law_size" = some (some (.ref f_12))) (l_12 : K.lookup f_12 = some ⟨oc_12, od_12, .func (PySem.W.fnOf "_law_size" "_law_size" (defArgs s__law_size) (defBody s__law_size) (defScope s__law_size) .none kV_12 dc_12 pm_12 an_12 cd_12 ct_12), sl_12⟩) (c_12 : PySem.W.codeIn K cd_12 "_law_size" = true) (k_12 : PySem.W.keepIn K (.ref f_12) = true)
    {od_13 an_13 : Option Addr} {sl_13 : Array (Option Value)} {oc_13 kV_13 dc_13 pm_13 cd_13 ct_13 : Value}
    (p_13 : PySem.W.nsIn K mainGlobals "_law_letters" = some (some (.ref f_13))) (l_13 : K.lookup f_13 = some ⟨oc_13, od_13, .func (PySem.W.fnOf "_law_letters" "_law_letters" (defArgs s__law_letters) (defBody s__law_letters) (defScope s__law_letters) .none kV_13 dc_13 pm_13 an_13 cd_13 ct_13), sl_13⟩) (c_13 : PySem.W.codeIn K cd_13 "_law_letters" = true) (k_13 : PySem.W.keepIn K (.ref f_13) = true)
    {od_14 an_14 : Option Addr} {sl_14 : Array (Option Value)} {oc_14 kV_14 dc_14 pm_14 cd_14 ct_14 : Value}
    (p_14 : PySem.W.nsIn K mainGlobals "_law_is_read" = some (some (.ref f_14))) (l_14 : K.lookup f_14 = some ⟨oc_14, od_14, .func (PySem.W.fnOf "_law_is_read" "_law_is_read" (defArgs s__law_is_read) (defBody s__law_is_read) (defScope s__law_is_read) .none kV_14 dc_14 pm_14 an_14 cd_14 ct_14), sl_14⟩) (c_14 : PySem.W.codeIn K cd_14 "_law_is_read" = true) (k_14 : PySem.W.keepIn K (.ref f_14) = true)
    {od_15 an_15 : Option Addr} {sl_15 : Array (Option Value)} {oc_15 kV_15 dc_15 pm_15 cd_15 ct_15 : Value}
    (p_15 : PySem.W.nsIn K mainGlobals "_law_longer" = some (some (.ref f_15))) (l_15 : K.lookup f_15 = some ⟨oc_15, od_15, .func (PySem.W.fnOf "_law_longer" "_law_longer" (defArgs s__law_longer) (defBody s__law_longer) (defScope s__law_longer) .none kV_15 dc_15 pm_15 an_15 cd_15 ct_15), sl_15⟩) (c_15 : PySem.W.codeIn K cd_15 "_law_longer" = true) (k_15 : PySem.W.keepIn K (.ref f_15) = true)
    {od_16 an_16 : Option Addr} {sl_16 : Array (Option Value)} {oc_16 kV_16 dc_16 pm_16 cd_16 ct_16 : Value}
    (p_16 : PySem.W.nsIn K mainGlobals "_law_reads" = some (some (.ref f_16))) (l_16 : K.lookup f_16 = some ⟨oc_16, od_16, .func (PySem.W.fnOf "_law_reads" "_law_reads" (defArgs s__law_reads) (defBody s__law_reads) (defScope s__law_reads) .none kV_16 dc_16 pm_16 an_16 cd_16 ct_16), sl_16⟩) (c_16 : PySem.W.codeIn K cd_16 "_law_reads" = true) (k_16 : PySem.W.keepIn K (.ref f_16) = true)
    {od_17 an_17 : Option Addr} {sl_17 : Array (Option Value)} {oc_17 kV_17 dc_17 pm_17 cd_17 ct_17 : Value}
    (p_17 : PySem.W.nsIn K mainGlobals "_law_rank_ahead" = some (some (.ref f_17))) (l_17 : K.lookup f_17 = some ⟨oc_17, od_17, .func (PySem.W.fnOf "_law_rank_ahead" "_law_rank_ahead" (defArgs s__law_rank_ahead) (defBody s__law_rank_ahead) (defScope s__law_rank_ahead) .none kV_17 dc_17 pm_17 an_17 cd_17 ct_17), sl_17⟩) (c_17 : PySem.W.codeIn K cd_17 "_law_rank_ahead" = true) (k_17 : PySem.W.keepIn K (.ref f_17) = true)
    {od_18 an_18 : Option Addr} {sl_18 : Array (Option Value)} {oc_18 kV_18 dc_18 pm_18 cd_18 ct_18 : Value}
    (p_18 : PySem.W.nsIn K mainGlobals "_law_ranks" = some (some (.ref f_18))) (l_18 : K.lookup f_18 = some ⟨oc_18, od_18, .func (PySem.W.fnOf "_law_ranks" "_law_ranks" (defArgs s__law_ranks) (defBody s__law_ranks) (defScope s__law_ranks) .none kV_18 dc_18 pm_18 an_18 cd_18 ct_18), sl_18⟩) (c_18 : PySem.W.codeIn K cd_18 "_law_ranks" = true) (k_18 : PySem.W.keepIn K (.ref f_18) = true)
    {od_19 an_19 : Option Addr} {sl_19 : Array (Option Value)} {oc_19 kV_19 dc_19 pm_19 cd_19 ct_19 : Value}
    (p_19 : PySem.W.nsIn K mainGlobals "_law_text" = some (some (.ref f_19))) (l_19 : K.lookup f_19 = some ⟨oc_19, od_19, .func (PySem.W.fnOf "_law_text" "_law_text" (defArgs s__law_text) (defBody s__law_text) (defScope s__law_text) .none kV_19 dc_19 pm_19 an_19 cd_19 ct_19), sl_19⟩) (c_19 : PySem.W.codeIn K cd_19 "_law_text" = true) (k_19 : PySem.W.keepIn K (.ref f_19) = true)
    {od_20 an_20 : Option Addr} {sl_20 : Array (Option Value)} {oc_20 kV_20 dc_20 pm_20 cd_20 ct_20 : Value}
    (p_20 : PySem.W.nsIn K mainGlobals "_law_told_right" = some (some (.ref f_20))) (l_20 : K.lookup f_20 = some ⟨oc_20, od_20, .func (PySem.W.fnOf "_law_told_right" "_law_told_right" (defArgs s__law_told_right) (defBody s__law_told_right) (defScope s__law_told_right) .none kV_20 dc_20 pm_20 an_20 cd_20 ct_20), sl_20⟩) (c_20 : PySem.W.codeIn K cd_20 "_law_told_right" = true) (k_20 : PySem.W.keepIn K (.ref f_20) = true)
    {od_21 an_21 : Option Addr} {sl_21 : Array (Option Value)} {oc_21 kV_21 dc_21 pm_21 cd_21 ct_21 : Value}
    (p_21 : PySem.W.nsIn K mainGlobals "is_whole" = some (some (.ref f_21))) (l_21 : K.lookup f_21 = some ⟨oc_21, od_21, .func (PySem.W.fnOf "is_whole" "is_whole" (defArgs s_is_whole) (defBody s_is_whole) (defScope s_is_whole) .none kV_21 dc_21 pm_21 an_21 cd_21 ct_21), sl_21⟩) (c_21 : PySem.W.codeIn K cd_21 "is_whole" = true) (k_21 : PySem.W.keepIn K (.ref f_21) = true)
    {od_22 an_22 : Option Addr} {sl_22 : Array (Option Value)} {oc_22 kV_22 dc_22 pm_22 cd_22 ct_22 : Value}
    (p_22 : PySem.W.nsIn K mainGlobals "is_count" = some (some (.ref f_22))) (l_22 : K.lookup f_22 = some ⟨oc_22, od_22, .func (PySem.W.fnOf "is_count" "is_count" (defArgs s_is_count) (defBody s_is_count) (defScope s_is_count) .none kV_22 dc_22 pm_22 an_22 cd_22 ct_22), sl_22⟩) (c_22 : PySem.W.codeIn K cd_22 "is_count" = true) (k_22 : PySem.W.keepIn K (.ref f_22) = true)
    {od_23 an_23 : Option Addr} {sl_23 : Array (Option Value)} {oc_23 kV_23 dc_23 pm_23 cd_23 ct_23 : Value}
    (p_23 : PySem.W.nsIn K mainGlobals "need_depth" = some (some (.ref f_23))) (l_23 : K.lookup f_23 = some ⟨oc_23, od_23, .func (PySem.W.fnOf "need_depth" "need_depth" (defArgs s_need_depth) (defBody s_need_depth) (defScope s_need_depth) .none kV_23 dc_23 pm_23 an_23 cd_23 ct_23), sl_23⟩) (c_23 : PySem.W.codeIn K cd_23 "need_depth" = true) (k_23 : PySem.W.keepIn K (.ref f_23) = true)
    {od_24 an_24 : Option Addr} {sl_24 : Array (Option Value)} {oc_24 kV_24 dc_24 pm_24 cd_24 ct_24 : Value}
    (p_24 : PySem.W.nsIn K mainGlobals "_going" = some (some (.ref f_24))) (l_24 : K.lookup f_24 = some ⟨oc_24, od_24, .func (PySem.W.fnOf "_going" "_going" (defArgs s__going) (defBody s__going) (defScope s__going) .none kV_24 dc_24 pm_24 an_24 cd_24 ct_24), sl_24⟩) (c_24 : PySem.W.codeIn K cd_24 "_going" = true) (k_24 : PySem.W.keepIn K (.ref f_24) = true)
    {od_25 an_25 : Option Addr} {sl_25 : Array (Option Value)} {oc_25 kV_25 dc_25 pm_25 cd_25 ct_25 : Value}
    (p_25 : PySem.W.nsIn K mainGlobals "can_go" = some (some (.ref f_25))) (l_25 : K.lookup f_25 = some ⟨oc_25, od_25, .func (PySem.W.fnOf "can_go" "can_go" (defArgs s_can_go) (defBody s_can_go) (defScope s_can_go) .none kV_25 dc_25 pm_25 an_25 cd_25 ct_25), sl_25⟩) (c_25 : PySem.W.codeIn K cd_25 "can_go" = true) (k_25 : PySem.W.keepIn K (.ref f_25) = true)
    {od_26 an_26 : Option Addr} {sl_26 : Array (Option Value)} {oc_26 kV_26 dc_26 pm_26 cd_26 ct_26 : Value}
    (p_26 : PySem.W.nsIn K mainGlobals "_law_goes" = some (some (.ref f_26))) (l_26 : K.lookup f_26 = some ⟨oc_26, od_26, .func (PySem.W.fnOf "_law_goes" "_law_goes" (defArgs s__law_goes) (defBody s__law_goes) (defScope s__law_goes) .none kV_26 dc_26 pm_26 an_26 cd_26 ct_26), sl_26⟩) (c_26 : PySem.W.codeIn K cd_26 "_law_goes" = true) (k_26 : PySem.W.keepIn K (.ref f_26) = true)
    {od_27 an_27 : Option Addr} {sl_27 : Array (Option Value)} {oc_27 kV_27 dc_27 pm_27 cd_27 ct_27 : Value}
    (p_27 : PySem.W.nsIn K mainGlobals "_law_right" = some (some (.ref f_27))) (l_27 : K.lookup f_27 = some ⟨oc_27, od_27, .func (PySem.W.fnOf "_law_right" "_law_right" (defArgs s__law_right) (defBody s__law_right) (defScope s__law_right) .none kV_27 dc_27 pm_27 an_27 cd_27 ct_27), sl_27⟩) (c_27 : PySem.W.codeIn K cd_27 "_law_right" = true) (k_27 : PySem.W.keepIn K (.ref f_27) = true)
    {od_28 an_28 : Option Addr} {sl_28 : Array (Option Value)} {oc_28 kV_28 dc_28 pm_28 cd_28 ct_28 : Value}
    (p_28 : PySem.W.nsIn K mainGlobals "_law_long_right" = some (some (.ref f_28))) (l_28 : K.lookup f_28 = some ⟨oc_28, od_28, .func (PySem.W.fnOf "_law_long_right" "_law_long_right" (defArgs s__law_long_right) (defBody s__law_long_right) (defScope s__law_long_right) .none kV_28 dc_28 pm_28 an_28 cd_28 ct_28), sl_28⟩) (c_28 : PySem.W.codeIn K cd_28 "_law_long_right" = true) (k_28 : PySem.W.keepIn K (.ref f_28) = true)
    {od_29 an_29 : Option Addr} {sl_29 : Array (Option Value)} {oc_29 kV_29 dc_29 pm_29 cd_29 ct_29 : Value}
    (p_29 : PySem.W.nsIn K mainGlobals "law" = some (some (.ref f_29))) (l_29 : K.lookup f_29 = some ⟨oc_29, od_29, .func (PySem.W.fnOf "law" "law" (defArgs s_law) (defBody s_law) (defScope s_law) .none kV_29 dc_29 pm_29 an_29 cd_29 ct_29), sl_29⟩) (c_29 : PySem.W.codeIn K cd_29 "law" = true) (k_29 : PySem.W.keepIn K (.ref f_29) = true)
    (z_0 : PySem.W.nsIn K mainGlobals "range" = some none)
    (z_1 : PySem.W.nsIn K mainGlobals "len" = some none)
    (z_2 : PySem.W.nsIn K mainGlobals "min" = some none)
    (z_3 : PySem.W.nsIn K mainGlobals "enumerate" = some none)
    (z_4 : PySem.W.nsIn K mainGlobals "sum" = some none)
    (z_5 : PySem.W.nsIn K mainGlobals "int" = some none)
    (z_6 : PySem.W.nsIn K mainGlobals "max" = some none)
    (z_7 : PySem.W.nsIn K mainGlobals "repr" = some none)
    (z_8 : PySem.W.nsIn K mainGlobals "isinstance" = some none)
    (z_9 : PySem.W.nsIn K mainGlobals "str" = some none)
    (z_10 : PySem.W.nsIn K mainGlobals "list" = some none)
    (z_11 : PySem.W.nsIn K mainGlobals "zip" = some none)
    (z_12 : PySem.W.nsIn K mainGlobals "sorted" = some none)
    (z_13 : PySem.W.nsIn K mainGlobals "bool" = some none)
    : ∃ fd : FuncData, (∀ (s : Shared) (v : Value), BindsTo s fd ⟨[v], []⟩ [("_law_script", v)]) ∧ ∀ base : Heap, K.In base → base.Ns mainGlobals mg → Gx.FnG l.prog w K mg base CX0 7 fa fd ["_law_script"] (sp_law K) := by
  have e := hfa.symm.trans (PySem.W.mg_of X G p_29)
  cases e
  have F_0 := fun_mk (st := s__law_row) l_0 c_0 k_0
  have F_1 := fun_mk (st := s__law_long_ranks) l_1 c_1 k_1
  have F_2 := fun_mk (st := s__law_cell) l_2 c_2 k_2
  have F_3 := fun_mk (st := s__law_generator) l_3 c_3 k_3
  have F_4 := fun_mk (st := s__law_same) l_4 c_4 k_4
  have F_5 := fun_mk (st := s_is_text) l_5 c_5 k_5
  have F_6 := fun_mk (st := s_need_text) l_6 c_6 k_6
  have F_7 := fun_mk (st := s__front_ranks) l_7 c_7 k_7
  have F_8 := fun_mk (st := s__ranks) l_8 c_8 k_8
  have F_9 := fun_mk (st := s_ranks) l_9 c_9 k_9
  have F_10 := fun_mk (st := s__law_hash) l_10 c_10 k_10
  have F_11 := fun_mk (st := s__law_random) l_11 c_11 k_11
  have F_12 := fun_mk (st := s__law_size) l_12 c_12 k_12
  have F_13 := fun_mk (st := s__law_letters) l_13 c_13 k_13
  have F_14 := fun_mk (st := s__law_is_read) l_14 c_14 k_14
  have F_15 := fun_mk (st := s__law_longer) l_15 c_15 k_15
  have F_16 := fun_mk (st := s__law_reads) l_16 c_16 k_16
  have F_17 := fun_mk (st := s__law_rank_ahead) l_17 c_17 k_17
  have F_18 := fun_mk (st := s__law_ranks) l_18 c_18 k_18
  have F_19 := fun_mk (st := s__law_text) l_19 c_19 k_19
  have F_20 := fun_mk (st := s__law_told_right) l_20 c_20 k_20
  have F_21 := fun_mk (st := s_is_whole) l_21 c_21 k_21
  have F_22 := fun_mk (st := s_is_count) l_22 c_22 k_22
  have F_23 := fun_mk (st := s_need_depth) l_23 c_23 k_23
  have F_24 := fun_mk (st := s__going) l_24 c_24 k_24
  have F_25 := fun_mk (st := s_can_go) l_25 c_25 k_25
  have F_26 := fun_mk (st := s__law_goes) l_26 c_26 k_26
  have F_27 := fun_mk (st := s__law_right) l_27 c_27 k_27
  have F_28 := fun_mk (st := s__law_long_right) l_28 c_28 k_28
  have F_29 := fun_mk (st := s_law) l_29 c_29 k_29
  let T : Tx K mg := ⟨_, _, F_0, PySem.W.mg_of X G p_0, _, _, F_1, PySem.W.mg_of X G p_1, _, _, F_2, PySem.W.mg_of X G p_2, _, _, F_3, PySem.W.mg_of X G p_3, _, _, F_4, PySem.W.mg_of X G p_4, _, _, F_5, PySem.W.mg_of X G p_5, _, _, F_6, PySem.W.mg_of X G p_6, _, _, F_7, PySem.W.mg_of X G p_7, _, _, F_8, PySem.W.mg_of X G p_8, _, _, F_9, PySem.W.mg_of X G p_9, _, _, F_10, PySem.W.mg_of X G p_10, _, _, F_11, PySem.W.mg_of X G p_11, _, _, F_12, PySem.W.mg_of X G p_12, _, _, F_13, PySem.W.mg_of X G p_13, _, _, F_14, PySem.W.mg_of X G p_14, _, _, F_15, PySem.W.mg_of X G p_15, _, _, F_16, PySem.W.mg_of X G p_16, _, _, F_17, PySem.W.mg_of X G p_17, _, _, F_18, PySem.W.mg_of X G p_18, _, _, F_19, PySem.W.mg_of X G p_19, _, _, F_20, PySem.W.mg_of X G p_20, _, _, F_21, PySem.W.mg_of X G p_21, _, _, F_22, PySem.W.mg_of X G p_22, _, _, F_23, PySem.W.mg_of X G p_23, _, _, F_24, PySem.W.mg_of X G p_24, _, _, F_25, PySem.W.mg_of X G p_25, _, _, F_26, PySem.W.mg_of X G p_26, _, _, F_27, PySem.W.mg_of X G p_27, _, _, F_28, PySem.W.mg_of X G p_28, _, _, F_29, PySem.W.mg_of X G p_29, PySem.W.mg_none_of X G z_0, PySem.W.mg_none_of X G z_1, PySem.W.mg_none_of X G z_2, PySem.W.mg_none_of X G z_3, PySem.W.mg_none_of X G z_4, PySem.W.mg_none_of X G z_5, PySem.W.mg_none_of X G z_6, PySem.W.mg_none_of X G z_7, PySem.W.mg_none_of X G z_8, PySem.W.mg_none_of X G z_9, PySem.W.mg_none_of X G z_10, PySem.W.mg_none_of X G z_11, PySem.W.mg_none_of X G z_12, PySem.W.mg_none_of X G z_13⟩
  exact ⟨PySem.W.fnOf "law" "law" (defArgs s_law) (defBody s_law) (defScope s_law) .none kV_29 dc_29 pm_29 an_29 cd_29 ct_29, fun s v => .of_eq rfl, fun base _ _ => ok_law T⟩
end K78
open PySem PySem.W PyProof.Rows
set_option maxRecDepth 100000 in
set_option maxHeartbeats 0 in
theorem PySem.Challenge.cw_skipcounts_k78_ranks_of_places_holds : PySem.Challenge.rw_skipcounts_k78_ranks_of_places.Holds := by
  w_on; o_law; k_head; (case hw => w_witness2)
  k_fill
  refine Gx.walk_ofG (l := PySem.Challenge.rw_skipcounts_k78_ranks_of_places) (n := 63) (k := 7) (x := "_law_script") (sp := fun w => K78.sp_law _) rfl (by decide) rfl ⟨rfl, by decide, by decide⟩ (fun w h Y => PySem.W.kIn_of Y) ?F (fun _ _ a ns hl _ hS => ⟨a, ns, rfl, hS, hl, fun _ => rfl⟩)
  case F =>
    intro w mg fa h KX G hmg
    refine' K78.all_mk KX G hmg ?p_0 ?l_0 ?c_0 ?k_0 ?p_1 ?l_1 ?c_1 ?k_1 ?p_2 ?l_2 ?c_2 ?k_2 ?p_3 ?l_3 ?c_3 ?k_3 ?p_4 ?l_4 ?c_4 ?k_4 ?p_5 ?l_5 ?c_5 ?k_5 ?p_6 ?l_6 ?c_6 ?k_6 ?p_7 ?l_7 ?c_7 ?k_7 ?p_8 ?l_8 ?c_8 ?k_8 ?p_9 ?l_9 ?c_9 ?k_9 ?p_10 ?l_10 ?c_10 ?k_10 ?p_11 ?l_11 ?c_11 ?k_11 ?p_12 ?l_12 ?c_12 ?k_12 ?p_13 ?l_13 ?c_13 ?k_13 ?p_14 ?l_14 ?c_14 ?k_14 ?p_15 ?l_15 ?c_15 ?k_15 ?p_16 ?l_16 ?c_16 ?k_16 ?p_17 ?l_17 ?c_17 ?k_17 ?p_18 ?l_18 ?c_18 ?k_18 ?p_19 ?l_19 ?c_19 ?k_19 ?p_20 ?l_20 ?c_20 ?k_20 ?p_21 ?l_21 ?c_21 ?k_21 ?p_22 ?l_22 ?c_22 ?k_22 ?p_23 ?l_23 ?c_23 ?k_23 ?p_24 ?l_24 ?c_24 ?k_24 ?p_25 ?l_25 ?c_25 ?k_25 ?p_26 ?l_26 ?c_26 ?k_26 ?p_27 ?l_27 ?c_27 ?k_27 ?p_28 ?l_28 ?c_28 ?k_28 ?p_29 ?l_29 ?c_29 ?k_29 ?z_0 ?z_1 ?z_2 ?z_3 ?z_4 ?z_5 ?z_6 ?z_7 ?z_8 ?z_9 ?z_10 ?z_11 ?z_12 ?z_13
    (case p_0 => k_is)
    (case l_0 => k_is)
    (case c_0 => k_is)
    (case k_0 => k_is)
    (case p_1 => k_is)
    (case l_1 => k_is)
    (case c_1 => k_is)
    (case k_1 => k_is)
    (case p_2 => k_is)
    (case l_2 => k_is)
    (case c_2 => k_is)
    (case k_2 => k_is)
    (case p_3 => k_is)
    (case l_3 => k_is)
    (case c_3 => k_is)
    (case k_3 => k_is)
    (case p_4 => k_is)
    (case l_4 => k_is)
    (case c_4 => k_is)
    (case k_4 => k_is)
    (case p_5 => k_is)
    (case l_5 => k_is)
    (case c_5 => k_is)
    (case k_5 => k_is)
    (case p_6 => k_is)
    (case l_6 => k_is)
    (case c_6 => k_is)
    (case k_6 => k_is)
    (case p_7 => k_is)
    (case l_7 => k_is)
    (case c_7 => k_is)
    (case k_7 => k_is)
    (case p_8 => k_is)
    (case l_8 => k_is)
    (case c_8 => k_is)
    (case k_8 => k_is)
    (case p_9 => k_is)
    (case l_9 => k_is)
    (case c_9 => k_is)
    (case k_9 => k_is)
    (case p_10 => k_is)
    (case l_10 => k_is)
    (case c_10 => k_is)
    (case k_10 => k_is)
    (case p_11 => k_is)
    (case l_11 => k_is)
    (case c_11 => k_is)
    (case k_11 => k_is)
    (case p_12 => k_is)
    (case l_12 => k_is)
    (case c_12 => k_is)
    (case k_12 => k_is)
    (case p_13 => k_is)
    (case l_13 => k_is)
    (case c_13 => k_is)
    (case k_13 => k_is)
    (case p_14 => k_is)
    (case l_14 => k_is)
    (case c_14 => k_is)
    (case k_14 => k_is)
    (case p_15 => k_is)
    (case l_15 => k_is)
    (case c_15 => k_is)
    (case k_15 => k_is)
    (case p_16 => k_is)
    (case l_16 => k_is)
    (case c_16 => k_is)
    (case k_16 => k_is)
    (case p_17 => k_is)
    (case l_17 => k_is)
    (case c_17 => k_is)
    (case k_17 => k_is)
    (case p_18 => k_is)
    (case l_18 => k_is)
    (case c_18 => k_is)
    (case k_18 => k_is)
    (case p_19 => k_is)
    (case l_19 => k_is)
    (case c_19 => k_is)
    (case k_19 => k_is)
    (case p_20 => k_is)
    (case l_20 => k_is)
    (case c_20 => k_is)
    (case k_20 => k_is)
    (case p_21 => k_is)
    (case l_21 => k_is)
    (case c_21 => k_is)
    (case k_21 => k_is)
    (case p_22 => k_is)
    (case l_22 => k_is)
    (case c_22 => k_is)
    (case k_22 => k_is)
    (case p_23 => k_is)
    (case l_23 => k_is)
    (case c_23 => k_is)
    (case k_23 => k_is)
    (case p_24 => k_is)
    (case l_24 => k_is)
    (case c_24 => k_is)
    (case k_24 => k_is)
    (case p_25 => k_is)
    (case l_25 => k_is)
    (case c_25 => k_is)
    (case k_25 => k_is)
    (case p_26 => k_is)
    (case l_26 => k_is)
    (case c_26 => k_is)
    (case k_26 => k_is)
    (case p_27 => k_is)
    (case l_27 => k_is)
    (case c_27 => k_is)
    (case k_27 => k_is)
    (case p_28 => k_is)
    (case l_28 => k_is)
    (case c_28 => k_is)
    (case k_28 => k_is)
    (case p_29 => k_is)
    (case l_29 => k_is)
    (case c_29 => k_is)
    (case k_29 => k_is)
    (case z_0 => k_is)
    (case z_1 => k_is)
    (case z_2 => k_is)
    (case z_3 => k_is)
    (case z_4 => k_is)
    (case z_5 => k_is)
    (case z_6 => k_is)
    (case z_7 => k_is)
    (case z_8 => k_is)
    (case z_9 => k_is)
    (case z_10 => k_is)
    (case z_11 => k_is)
    (case z_12 => k_is)
    (case z_13 => k_is)
