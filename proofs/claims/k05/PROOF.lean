import PyProof.Rows.All
import Wide.All
import OpenK.AllK
import Wide.FinOn
import HandS.Text
import HandS.Iter
import HandS.Comp
import HandS.Set
import HandS.SetFor
import HandS.Strs
import PyProof.Rows.SortShellAny
import HandS.Style
import HandS.StrMore
import HandS.Wide
import HandS.WideBits
import HandS.RevRange
import HandS.IsInst
import HandS.Replace
import HandS.Conv
import HandS.Evl
import HandS.ForMost
import PyProof.ListStr
import KE.KRevSl
import HandS.Walk
import PySem.Challenge.RW_skipcounts_k05_whole_counts_of_joined_te
import PyProof.StrLawsIn
import PyProof.Rows.StrCase
import PyProof.StrBlock2
set_option Elab.async false
set_option linter.all false
set_option maxRecDepth 100000
set_option maxHeartbeats 4000000
/-! Sx: sets of texts: set(text), set(list of texts), sorted of such a set, its len -/
namespace Sx
open PySem PySem.Spec PyProof.Rows L2
section
variable {P : Program} {w : World} {κ : Type} [DecidableEq κ] {knd : PySem.KeyKind P w κ}
/-- what is known of the payload of a set: kn tells which keys are in, c how many -/
structure Pay (knd : PySem.KeyKind P w κ) (es : Array (Int × Value)) (t : SetTable) (kn : κ → Prop) (c : Nat) : Prop where
  el : ElemsOf knd es.toList
  mm : ∀ k, kn k ↔ ∃ e ∈ es.toList, knd.is k e.2 = true
  lt : es.size < scanBound
  ft : t.fits es.size = true
  sz : es.size = c
  ri : Ris t.place.toList
  ld : w.params.followText "set-order" = true ∨ t.led = true
def Has (knd : PySem.KeyKind P w κ) (h : Heap) (a : Addr) (kn : κ → Prop) (c : Nat) : Prop :=
  ∃ o es ep t, h.get? a = some o ∧ o.ExactSet ∧ o.data = .set es ep t ∧ Pay knd es t kn c
theorem Has.on {h h' : Heap} {a : Addr} {kn : κ → Prop} {c : Nat} (R : Has knd h a kn c) (k : ∀ o, h.get? a = some o → h'.get? a = some o) : Has knd h' a kn c :=
  let ⟨o, es, ep, t, ho, r⟩ := R
  ⟨o, es, ep, t, k o ho, r⟩
theorem Has.say {h : Heap} {a : Addr} {kn kn' : κ → Prop} {c c' : Nat} (R : Has knd h a kn c) (e : ∀ k, kn' k ↔ kn k) (ec : c' = c) : Has knd h a kn' c' := by
  obtain ⟨o, es, ep, t, ho, h1, h2, p⟩ := R
  exact ⟨o, es, ep, t, ho, h1, h2, ⟨p.el, fun k => (e k).trans (p.mm k), p.lt, p.ft, p.sz.trans ec.symm, p.ri, p.ld⟩⟩
end
section
variable {P : Program} {w : World} {κ : Type} [DecidableEq κ] {knd : PySem.KeyKind P w κ} {A : Around} {E : Value → Shared → Prop} {s : Shared} {a : Addr} {kn : κ → Prop} {c : Nat}
theorem store_put {h : Heap} {o : Obj} {es es' : Array (Int × Value)} {ep : Nat} {t t' : SetTable} (ho : h.get? a = some o) (hd : o.data = .set es ep t) :
    (h.update a (Obj.putSet es' t')).get? a = some { o with data := .set es' (ep + 1) t' } := L2.store_at ho hd
/-- the end of an add of something new -/
theorem tail_new {g : Bool → Sem Unit} (hg : ∀ (b : Bool) (s₁ : Shared) (Q' : Unit → Shared → Prop), Q' () s₁ → wpAny (model P w) A (g b) Q' E s₁)
    {o : Obj} {es : Array (Int × Value)} {ep : Nat} {t : SetTable} (ho : s.heap.get? a = some o) (hex : o.ExactSet) (hd : o.data = .set es ep t)
    {es1 : Array (Int × Value)} {t2 : SetTable} (p : Pay knd es1 t2 kn c) {dm : Bool} {R : Option Bool → Shared → Prop}
    (hR : ∀ h', Heap.SameBut a s.heap h' → Has knd h' a kn c → R (some true) { s with heap := h' }) :
    wpAny (model P w) A (do
        storeSet a es1 t2
        if (!dm && t2.tooFull) = true then do
            g (relayAll t2 es1 (SetTable.grown es1.size)).2.2
            storeSet a (relayAll t2 es1 (SetTable.grown es1.size)).1 (relayAll t2 es1 (SetTable.grown es1.size)).2.1
            pure (some true)
          else pure (some true)) R E s := by
  have sb := Heap.SameBut.update s.heap a (Obj.putSet es1 t2)
  refine wpAny_bind (wpAny_storeSet_of ho hd ?_ (fits_of_scanBound p.lt))
  have here := store_put (es' := es1) (t' := t2) ho hd
  split
  · have q1 := relayAll_perm t2 es1 (SetTable.grown es1.size)
    have q2 := relayAll_fits t2 es1 (SetTable.grown es1.size)
    have q3 := relayAll_ris t2 es1 (SetTable.grown es1.size)
    have q4 := relayAll_led t2 es1 (SetTable.grown es1.size)
    generalize relayAll t2 es1 (SetTable.grown es1.size) = Z at q1 q2 q3 q4 ⊢
    obtain ⟨es2, t3, gv⟩ := Z
    dsimp only at q1 q2 q3 q4 ⊢
    have zz : es2.size = es1.size := by rw [← Array.length_toList, q1.length_eq, Array.length_toList]
    have lt2 : es2.size < scanBound := by rw [zz]; exact p.lt
    refine wpAny_bind (hg _ _ _ ?_)
    refine wpAny_bind (wpAny_storeSet_of here rfl ?_ (fits_of_scanBound lt2))
    have there := store_put (es' := es2) (t' := t3) here rfl
    refine wpAny_pure (hR _ (sb.trans (Heap.SameBut.update _ a _)) ⟨_, es2, _, t3, there, hex, rfl, p.el.perm q1, fun k => (p.mm k).trans ?_, lt2, q2, zz.trans p.sz, q3, p.ld.imp id fun z => by rw [q4]; exact z⟩)
    exact ⟨fun ⟨e, he, x⟩ => ⟨e, q1.mem_iff.mpr he, x⟩, fun ⟨e, he, x⟩ => ⟨e, q1.mem_iff.mp he, x⟩⟩
  · exact wpAny_pure (hR _ sb ⟨_, es1, _, t2, here, hex, rfl, p⟩)
/-- one more key: the count goes up if it was not in -/
theorem add_one {k : κ} {x : Value} {Q : Bool → Shared → Prop} (hk : knd.is k x = true) (hx : x.scannable = true) (R : Has knd s.heap a kn c) (room : c + 1 < scanBound)
    (hin : kn k → ∀ h', Heap.SameBut a s.heap h' → Has knd h' a kn c → Q false { s with heap := h' })
    (hnew : ¬ kn k → ∀ h', Heap.SameBut a s.heap h' → Has knd h' a (fun j => kn j ∨ j = k) (c + 1) → Q true { s with heap := h' }) :
    wpAny (model P w) A (setAddHashed a x (knd.hash k)) Q E s := by
  obtain ⟨o, es, ep, t, ho, hex, hd, p⟩ := R
  unfold setAddHashed setAddHashedIn
  refine wpAny_holding (wpAny_bind (wpAny_setState_of ho hd p.ft ?_))
  dsimp only
  rw [byScan_of hx p.lt p.el]
  simp only [↓reduceIte]
  unfold setAddByScan
  refine wpAny_bind (wpAny_bind (wpAny_rule ?_))
  refine wpAny_bind (wpAny_setScan_of hk ho hd p.ft p.el ?_)
  cases hf : List.findIdx? (fun e => knd.is k e.2) es.toList with
  | some j =>
    dsimp only
    obtain ⟨lj, pj, _⟩ := List.findIdx?_eq_some_iff_getElem.mp hf
    refine wpAny_pure (wpAny_pure ?_)
    exact hin ((p.mm k).mpr ⟨es.toList[j], List.getElem_mem lj, pj⟩) s.heap (Heap.SameBut.refl a s.heap) ⟨o, es, ep, t, ho, hex, hd, p⟩
  | none =>
    dsimp only
    have out : ¬ kn k := fun z => by
      obtain ⟨e, he, hp⟩ := (p.mm k).mp z
      have := List.findIdx?_eq_none_iff.mp hf e he
      rw [hp] at this
      exact Bool.noConfusion this
    have gw : ∀ (b : Bool) {s₁ : Shared} {Q' : Unit → Shared → Prop}, Q' () s₁ → wpAny (model P w) A (match b with | true => rule "set.scan.the-table-gave-way" | false => pure ()) Q' E s₁ := by
      intro b s₁ Q' q
      cases b
      · exact wpAny_pure q
      · exact wpAny_rule q
    have q1 := layNew_perm t es (knd.hash k) x
    have q2 := layNew_fits t es (knd.hash k) x
    have q3 := layNew_ris t es (knd.hash k) x p.ri
    have q4 := layNew_led t es (knd.hash k) x
    generalize layNew t es (knd.hash k) x = L at q1 q2 q3 q4 ⊢
    obtain ⟨es1, t1, dm, gv⟩ := L
    dsimp only at q1 q2 q3 q4 ⊢
    rw [Array.toList_push] at q1
    have z1 : es1.size = c + 1 := by
      rw [← Array.length_toList, q1.length_eq, List.length_append, Array.length_toList, p.sz]
      rfl
    have mm1 : ∀ j, (kn j ∨ j = k) ↔ ∃ e ∈ es1.toList, knd.is j e.2 = true := by
      intro j
      constructor
      · rintro (z | rfl)
        · obtain ⟨e, he, q⟩ := (p.mm j).mp z
          exact ⟨e, q1.mem_iff.mpr (List.mem_append_left _ he), q⟩
        · exact ⟨_, q1.mem_iff.mpr (List.mem_append_right _ (List.mem_singleton.mpr rfl)), hk⟩
      · rintro ⟨e, he, q⟩
        rcases List.mem_append.mp (q1.mem_iff.mp he) with z | z
        · exact Or.inl ((p.mm j).mpr ⟨e, z, q⟩)
        · rw [List.mem_singleton] at z
          rw [z] at q
          exact Or.inr (knd.inj x j k q hk)
    have py : ∀ t' : SetTable, t'.fits es1.size = true → Ris t'.place.toList → t'.led = t1.led → Pay knd es1 t' (fun j => kn j ∨ j = k) (c + 1) := fun t' f r l =>
      ⟨(p.el.push hk hx).perm q1, mm1, by rw [z1]; exact room, f, z1, r, p.ld.imp id fun z => by rw [l, q4]; exact z⟩
    refine wpAny_bind (gw _ ?_)
    split
    · refine wpAny_bind ?_
      rw [hashByValue_scannable 8 hx]
      refine wpAny_pure ?_
      refine tail_new (knd := knd) (kn := fun j => kn j ∨ j = k) (c := c + 1) ?_ ho hex hd (py _ ?_ ?_ ?_) ?_
      · intro b s₁ Q' q
        cases b
        · exact wpAny_pure q
        · exact wpAny_rule q
      · split
        · exact q2
        · exact SetTable.fits_plain_off q2
      · split <;> exact q3
      · split <;> rfl
      · intro h' sb r
        dsimp only
        exact wpAny_pure (hnew out h' sb r)
    · refine wpAny_bind (wpAny_pure ?_)
      simp only [↓reduceIte]
      refine tail_new (knd := knd) (kn := fun j => kn j ∨ j = k) (c := c + 1) ?_ ho hex hd (py _ q2 q3 rfl) ?_
      · intro b s₁ Q' q
        cases b
        · exact wpAny_pure q
        · exact wpAny_rule q
      · intro h' sb r
        dsimp only
        exact wpAny_pure (hnew out h' sb r)
theorem has_fresh {h : Heap} : Has knd (h.push { cls := .type "set", dict := none, data := .set #[] 0 (.fresh 0 0 (!w.params.followText "set-order")) }) h.objs.size (fun _ => False) 0 :=
  ⟨_, #[], 0, _, Heap.get?_push_size _ rfl, ⟨rfl, rfl, rfl⟩, rfl, (fun e he => by simp at he), (fun k => by simp), (by decide), (by rfl), rfl, List.Pairwise.nil, by
    show _ ∨ (!w.params.followText "set-order") = true
    cases w.params.followText "set-order"
    · exact Or.inr rfl
    · exact Or.inl rfl⟩
end
end Sx
set_option Elab.async false
set_option linter.all false
set_option maxRecDepth 100000
set_option maxHeartbeats 4000000
namespace Sx
open PySem PySem.Spec PyProof.Rows L2
/-- the unlike ones of a list, each where it comes first -/
def uniq {κ : Type} [DecidableEq κ] : List κ → List κ → List κ
  | acc, [] => acc
  | acc, k :: r => uniq (if k ∈ acc then acc else acc ++ [k]) r
theorem uniq_mem {κ : Type} [DecidableEq κ] : ∀ (ks acc : List κ) (k : κ), k ∈ uniq acc ks ↔ k ∈ acc ∨ k ∈ ks
  | [], acc, k => by simp [uniq]
  | x :: r, acc, k => by
    rw [uniq, uniq_mem r]
    by_cases h : x ∈ acc
    · rw [if_pos h]
      constructor
      · rintro (z | z)
        · exact Or.inl z
        · exact Or.inr (List.mem_cons_of_mem _ z)
      · rintro (z | z)
        · exact Or.inl z
        · rcases List.mem_cons.mp z with e | e
          · subst e; exact Or.inl h
          · exact Or.inr e
    · rw [if_neg h, List.mem_append, List.mem_singleton, List.mem_cons, or_assoc]
theorem uniq_nodup {κ : Type} [DecidableEq κ] : ∀ (ks acc : List κ), acc.Nodup → (uniq acc ks).Nodup
  | [], acc, h => h
  | x :: r, acc, h => by
    rw [uniq]
    apply uniq_nodup r
    by_cases g : x ∈ acc
    · rw [if_pos g]; exact h
    · rw [if_neg g]
      rw [List.nodup_append]
      refine ⟨h, by simp, fun a ha b hb => ?_⟩
      rw [List.mem_singleton] at hb
      subst hb
      exact fun e => g (e ▸ ha)
theorem uniq_len {κ : Type} [DecidableEq κ] : ∀ (ks acc : List κ), (uniq acc ks).length ≤ acc.length + ks.length
  | [], acc => by simp [uniq]
  | x :: r, acc => by
    rw [uniq]
    have q := uniq_len r (if x ∈ acc then acc else acc ++ [x])
    have z : (if x ∈ acc then acc else acc ++ [x]).length ≤ acc.length + 1 := by
      split
      · omega
      · simp
    simp only [List.length_cons]
    omega
theorem uniq_snoc {κ : Type} [DecidableEq κ] : ∀ (ks acc : List κ) (k : κ), uniq acc (ks ++ [k]) = if k ∈ uniq acc ks then uniq acc ks else uniq acc ks ++ [k]
  | [], acc, k => rfl
  | x :: r, acc, k => by
    rw [List.cons_append, uniq, uniq_snoc r, uniq]
/-- all unlike exactly if none goes -/
theorem uniq_all {κ : Type} [DecidableEq κ] : ∀ (ks acc : List κ), acc.Nodup → ((uniq acc ks).length = acc.length + ks.length ↔ (acc ++ ks).Nodup)
  | [], acc, h => by simp [uniq, h]
  | x :: r, acc, h => by
    rw [uniq]
    by_cases g : x ∈ acc
    · rw [if_pos g]
      have q := uniq_len r acc
      constructor
      · intro z
        simp only [List.length_cons] at z
        omega
      · intro z
        rw [List.nodup_append] at z
        exact absurd rfl (z.2.2 x g x List.mem_cons_self)
    · rw [if_neg g]
      have hn : (acc ++ [x]).Nodup := by
        rw [List.nodup_append]
        refine ⟨h, by simp, fun a ha b hb => ?_⟩
        rw [List.mem_singleton] at hb
        subst hb
        exact fun e => g (e ▸ ha)
      have q := uniq_all r (acc ++ [x]) hn
      rw [List.append_assoc] at q
      simp only [List.length_append, List.length_cons, List.length_nil] at q ⊢
      rw [← show acc ++ x :: r = acc ++ ([x] ++ r) from rfl] at q
      rw [← q]
      omega
section
variable {P : Program} {w : World} {κ : Type} [DecidableEq κ] {knd : PySem.KeyKind P w κ} {A : Around} {E : Value → Shared → Prop} {s : Shared}
/-- the keys l, all unlike, are what the set at a has -/
def Lst (knd : PySem.KeyKind P w κ) (h : Heap) (a : Addr) (l : List κ) : Prop := Has knd h a (fun k => k ∈ l) l.length
theorem add_lst {a : Addr} {l : List κ} {k : κ} {x : Value} {Q : Bool → Shared → Prop} (hk : knd.is k x = true) (hx : x.scannable = true) (R : Lst knd s.heap a l) (room : l.length + 1 < scanBound)
    (hQ : ∀ (b : Bool) h', Heap.SameBut a s.heap h' → Lst knd h' a (if k ∈ l then l else l ++ [k]) → Q b { s with heap := h' }) :
    wpAny (model P w) A (setAddHashed a x (knd.hash k)) Q E s := by
  refine add_one (knd := knd) hk hx R room (fun hin h' sb hS2 => hQ _ h' sb ?_) (fun hnew h' sb hS2 => hQ _ h' sb ?_)
  · rw [if_pos hin]
    exact hS2
  · rw [if_neg hnew]
    refine Has.say hS2 (fun j => ?_) (by rw [List.length_append]; rfl)
    rw [List.mem_append, List.mem_singleton]
theorem upd_loop {I : Addr} {fp wr : List Addr} {G : Array GenState → Array GenState → Prop} {n : Nat} {Pv : Nat → Value → Prop} {St : Nat → Shared → Prop} {R : Result → Shared → Prop}
    (W : WalksS P w A.in1 I fp wr G n Pv St) (S : Addr) (out : S ∉ fp) (ks : List κ) (hn : n = ks.length) (hb : ks.length + 1 < scanBound) (hval : ∀ i v, Pv i v → ∃ k, ks[i]? = some k ∧ knd.is k v = true ∧ v.scannable = true) :
    ∀ (k i : Nat) (s : Shared), n - i = k → i ≤ n → St i s → Lst knd s.heap S (uniq [] (ks.take i)) →
      (∀ s', Moved (S :: wr) G s s' → Lst knd s'.heap S (uniq [] ks) → R (.ok (.ret .none)) s') →
      codeAny (model P w) A (.builtin "set.update.loop" ⟨[.ref S, .ref I], []⟩) R s := by
  have hw : S ∉ wr := fun h => out (W.sub _ h)
  have sub : ∀ b ∈ wr, b ∈ S :: wr := fun b hb => List.mem_cons_of_mem _ hb
  intro k
  induction k with
  | zero =>
    intro i s hk hi hst hS hR
    have e0 : i = n := by omega
    subst e0
    refine codeAny_builtin F.entry_set_update_loop ?_
    rw [Around.under_plainId F.plain_set_update_loop _]
    show wpAny _ A.in1 (pyNext (.ref I) >>= _) _ _ s
    refine wpAny_bind (W.done s _ _ hst fun s' hm => ?_)
    show wpAny _ A.in1 (ret Value.none) _ _ s'
    rw [List.take_of_length_le (by omega)] at hS
    exact wpAny_pure (hR s' (hm.mono sub) (Has.on hS fun o e => hm.heap S o hw e))
  | succ k ih =>
    intro i s hk hi hst hS hR
    have lt : i < n := by omega
    refine codeAny_builtin F.entry_set_update_loop ?_
    rw [Around.under_plainId F.plain_set_update_loop _]
    show wpAny _ A.in1 (pyNext (.ref I) >>= _) _ _ s
    refine wpAny_bind (W.item i s _ _ lt hst fun v s' hP hst' hm => ?_)
    obtain ⟨z, hz, iz, sv⟩ := hval i v hP
    have hS' : Lst knd s'.heap S (uniq [] (ks.take i)) := Has.on hS fun o e => hm.heap S o hw e
    show wpAny _ A.in1 (holding [v] (setAdd S v) >>= _) _ _ s'
    refine wpAny_bind (wpAny_holding ?_)
    unfold setAdd
    refine wpAny_holding ?_
    refine wpAny_bind (knd.pyHash (k := z) iz ?_)
    have ln := uniq_len (ks.take i) []
    rw [List.length_take, List.length_nil] at ln
    have tk : ks.take (i + 1) = ks.take i ++ [z] := by
      rw [List.take_add_one, hz]
      rfl
    refine add_lst (s := { s' with toks := s'.toks + 1 }) iz sv hS' (by omega) fun bb h' sb hS2 => ?_
    have hS3 : Lst knd h' S (uniq [] (ks.take (i + 1))) := by
      rw [tk, uniq_snoc]
      exact hS2
    refine wpAny_pure ⟨plainId_quiet F.plain_set_update_loop _, ih (i + 1) _ (by omega) lt (W.frame _ s' _ _ hst' (Nat.le_succ _) fun b hb o e => ?_) hS3 fun s'' hm2 hS4 => ?_⟩
    · rw [sb.2 b (fun h : b = S => out (by rw [← h]; exact hb))]; exact e
    · refine hR s'' (Moved.trans W.gtrans ((hm.mono sub).then_heap (Nat.le_succ _) fun b o hb e => ?_) hm2) hS4
      rw [sb.2 b (fun h : b = S => hb (by rw [h]; exact List.mem_cons_self))]; exact e
end
end Sx
set_option Elab.async false
set_option linter.all false
set_option maxRecDepth 100000
set_option maxHeartbeats 4000000
namespace Sx
open PySem PySem.Spec PyProof.Rows L2
section
variable {P : Program} {w : World} {A : Around} {E : Value → Shared → Prop} {s : Shared}
abbrev kT (P : Program) (w : World) : PySem.KeyKind P w Str := PySem.strKind P w
abbrev nset (w : World) : Obj := { cls := .type "set", dict := none, data := .set #[] 0 (.fresh 0 0 (!w.params.followText "set-order")) }
theorem lst_new {h : Heap} {a : Addr} (ho : h.get? a = some (nset w)) : Lst (kT P w) h a [] :=
  ⟨_, #[], 0, _, ho, ⟨rfl, rfl, rfl⟩, rfl, (fun e he => by simp at he), (fun k => by simp), (by decide), (by rfl), rfl, List.Pairwise.nil, by
    show _ ∨ (!w.params.followText "set-order") = true
    cases w.params.followText "set-order"
    · exact Or.inr rfl
    · exact Or.inl rfl⟩
theorem is_txt (k : Str) (u : Tok) : (kT P w).is k (.str k u) = true := by
  show Value.isStrOf k (.str k u) = true
  simp [Value.isStrOf]
/-- the signs of a text, each as a text -/
def sgs (x : Str) : List Str := x.cps.toList.map fun c => ⟨#[c]⟩
set_option maxRecDepth 100000 in
set_option maxHeartbeats 8000000 in
theorem set_of_text {x : Str} {t : Tok} {Q : Value → Shared → Prop} (hh : A.handled = none) (ha : x.cps.all (· < 128) = true) (hb : x.cps.size + 1 < scanBound)
    (h : ∀ (h' : Heap) (tk : Nat), Lst (kT P w) h' s.heap.objs.size (uniq [] (sgs x)) → (∀ b o, s.heap.get? b = some o → h'.get? b = some o) → Q (.ref s.heap.objs.size) { s with heap := h', toks := tk }) :
    wpAny (model P w) A (call (.type "set") [.str x t]) Q E s := by
  obtain ⟨c, tl, hmro⟩ := F.called_set.mro
  have hmade := F.called_set.made
  have hsub := F.called_set.sub
  refine wpAny_call (codeAny_of_tree ?_)
  show wpAny _ _ (callAny (.type "set") _) _ _ _
  refine wpAny_pure ⟨Code.quiet_builtin _ (by decide +kernel), codeAny_builtin F.entry_type_call ?_⟩
  rw [Around.under_plain (weight_type_call_type "set" [.str x t] []) rfl]
  have h1 := F.called_set.notType
  have h2 := F.called_set.canCreate
  have hct := F.typeCall_set_1 (.str x t)
  repeat (any_goals (first | assumption | wp_step))
  refine codeAny_mono (code_set_led1 (.str x t) (E := E) (Q₁ := fun obj s₁ => obj = .ref s.heap.objs.size ∧ s₁ = { s with heap := s.heap.push (nset w) }) ⟨rfl, rfl⟩) fun r s₁ hr => ?_
  cases r with
  | error e => exact hr
  | ok fl =>
    cases fl with
    | ret obj =>
      obtain ⟨rfl, rfl⟩ := hr
      have hS : (s.heap.push (nset w)).get? s.heap.objs.size = some (nset w) := Heap.get?_push_size _ rfl
      have hT : Shared.TypeIs { s with heap := s.heap.push (nset w) } (.ref s.heap.objs.size) "set" := ⟨_, hS, rfl⟩
      have hli := F.called_set.init.lookup
      have hbi := F.called_set.init.bind (.ref s.heap.objs.size)
      repeat (any_goals (first | assumption | wp_step))
      refine codeAny_mono (codeAny_call_builtin (R := wants (fun r s₂ => r = .none ∧ ∃ h' tk, s₂ = { s with heap := h', toks := tk } ∧ Lst (kT P w) h' s.heap.objs.size (uniq [] (sgs x)) ∧
          (∀ b o, s.heap.get? b = some o → h'.get? b = some o)) E) F.called_set.init.plain F.entry_set_init (check_set_init_1 hT ?_)) fun r₂ s₂ hr₂ => ?_
      · have hs1 := F.sub_str_set
        have hs2 := F.sub_str_frozenset
        have hne : (Value.type "str" == Value.type "dict") = false := by decide
        unfold Builtin.«set.__init__» noKeywords Builtin.Frozenset.updateFrom
        generalize hPI : pyIter = PI
        wp_walk
        subst hPI
        refine wpAny_pyIter_ascii ha ?_
        refine wpAny_bind (wpAny_runValue ?_)
        have hh3 : A.in1.in1.in1.handled = none := by simp [hh]
        have neI : s.heap.objs.size ∉ [(s.heap.push (nset w)).objs.size] := by
          rw [Heap.size_push, List.mem_singleton]
          exact Nat.ne_of_lt (Nat.lt_succ_self _)
        have hl : x.cps.size = (sgs x).length := by
          unfold sgs
          rw [List.length_map, Array.length_toList]
        refine upd_loop (knd := kT P w) ((Walks.strAscii hh3 _ x t).toS) s.heap.objs.size neI (sgs x) hl (by rw [← hl]; exact hb) (fun i v hv => ?_) (x.cps.size - 0) 0 _ (by omega) (Nat.zero_le _)
          ⟨_, Heap.get?_push_size _ rfl, rfl, rfl⟩ (lst_new (Heap.get?_push_of_some _ hS)) fun s' hm hS' => ?_
        · obtain ⟨c, u, hc, rfl⟩ := hv
          refine ⟨⟨#[c]⟩, ?_, is_txt _ _, rfl⟩
          unfold sgs
          rw [List.getElem?_map, Array.getElem?_toList, hc]
          rfl
        · obtain ⟨h', g2, d', tk', os'⟩ := s'
          have eg : g2 = s.gens := hm.gens
          have ed : d' = s.drawn := hm.drawn
          have eo : os' = s.os := hm.os
          subst eg; subst ed; subst eo
          show wpAny _ _ _ _ _ _
          refine wpAny_pure ?_
          show wpAny _ _ (ret Value.none) _ _ _
          refine wpAny_pure ⟨rfl, h', tk', rfl, hS', fun b o e => ?_⟩
          have b0 : b < s.heap.objs.size := Heap.lt_size e
          refine hm.heap b o (fun z => ?_) (Heap.get?_push_of_some _ (Heap.get?_push_of_some _ e))
          rcases List.mem_cons.mp z with z | z
          · rw [z] at b0
            exact Nat.lt_irrefl _ b0
          · rw [List.mem_singleton, Heap.size_push] at z
            rw [z] at b0
            exact Nat.lt_irrefl _ (Nat.lt_trans (Nat.lt_succ_self _) b0)
      · cases r₂ with
        | error e => exact hr₂
        | ok fl₂ =>
          cases fl₂ with
          | ret r =>
            obtain ⟨rfl, h', tk, rfl, hS', hk'⟩ := hr₂
            repeat (any_goals (first | assumption | wp_step))
            exact h _ _ hS' hk'
          | _ => exact hr₂.elim
    | _ => exact hr.elim
set_option maxRecDepth 100000 in
set_option maxHeartbeats 8000000 in
theorem set_of_list {l : Addr} {items : Array Value} {xs : List Str} {Q : Value → Shared → Prop} (hh : A.handled = none) (hl : s.heap.IsList l items) (hit : StrsAre items.toList xs) (hb : xs.length + 1 < scanBound)
    (h : ∀ (h' : Heap) (tk : Nat), Lst (kT P w) h' s.heap.objs.size (uniq [] xs) → (∀ b o, s.heap.get? b = some o → h'.get? b = some o) → Q (.ref s.heap.objs.size) { s with heap := h', toks := tk }) :
    wpAny (model P w) A (call (.type "set") [.ref l]) Q E s := by
  obtain ⟨c, tl, hmro⟩ := F.called_set.mro
  have hmade := F.called_set.made
  have hsub := F.called_set.sub
  refine wpAny_call (codeAny_of_tree ?_)
  show wpAny _ _ (callAny (.type "set") _) _ _ _
  refine wpAny_pure ⟨Code.quiet_builtin _ (by decide +kernel), codeAny_builtin F.entry_type_call ?_⟩
  rw [Around.under_plain (weight_type_call_type "set" [.ref l] []) rfl]
  have h1 := F.called_set.notType
  have h2 := F.called_set.canCreate
  have hct := F.typeCall_set_1 (Value.ref l)
  repeat (any_goals (first | assumption | wp_step))
  refine codeAny_mono (code_set_led1 (Value.ref l) (E := E) (Q₁ := fun obj s₁ => obj = .ref s.heap.objs.size ∧ s₁ = { s with heap := s.heap.push (nset w) }) ⟨rfl, rfl⟩) fun r s₁ hr => ?_
  cases r with
  | error e => exact hr
  | ok fl =>
    cases fl with
    | ret obj =>
      obtain ⟨rfl, rfl⟩ := hr
      have hS : (s.heap.push (nset w)).get? s.heap.objs.size = some (nset w) := Heap.get?_push_size _ rfl
      have hT : Shared.TypeIs { s with heap := s.heap.push (nset w) } (.ref s.heap.objs.size) "set" := ⟨_, hS, rfl⟩
      have hli := F.called_set.init.lookup
      have hbi := F.called_set.init.bind (.ref s.heap.objs.size)
      repeat (any_goals (first | assumption | wp_step))
      refine codeAny_mono (codeAny_call_builtin (R := wants (fun r s₂ => r = .none ∧ ∃ h' tk, s₂ = { s with heap := h', toks := tk } ∧ Lst (kT P w) h' s.heap.objs.size (uniq [] xs) ∧
          (∀ b o, s.heap.get? b = some o → h'.get? b = some o)) E) F.called_set.init.plain F.entry_set_init (check_set_init_1 hT ?_)) fun r₂ s₂ hr₂ => ?_
      · obtain ⟨ol, hol, hcl, nl, hdl⟩ := hl
        obtain ⟨ocls, odict, odata, oslots⟩ := ol
        simp only at hcl hdl
        subst hcl; subst hdl
        have hol' : (s.heap.push (nset w)).get? l = some { cls := .type "list", dict := odict, data := .seq items nl, slots := oslots } := Heap.get?_push_of_some _ hol
        have hl1 : (s.heap.push (nset w)).IsList l items := ⟨_, hol', rfl, nl, rfl⟩
        have hs1 := F.sub_list_set
        have hs2 := F.sub_list_frozenset
        have hne : (Value.type "list" == Value.type "dict") = false := by decide
        unfold Builtin.«set.__init__» noKeywords Builtin.Frozenset.updateFrom
        generalize hPI : pyIter = PI
        wp_walk
        subst hPI
        refine wpAny_pyIter_list hl1 ?_
        refine wpAny_bind (wpAny_runValue ?_)
        have hh3 : A.in1.in1.in1.handled = none := by simp [hh]
        have lS : l < s.heap.objs.size := Heap.lt_size hol
        have hneI : l ≠ (s.heap.push (nset w)).objs.size := by
          rw [Heap.size_push]
          exact Nat.ne_of_lt (Nat.lt_succ_of_lt lS)
        have neI : s.heap.objs.size ∉ [(s.heap.push (nset w)).objs.size, l] := by
          rw [Heap.size_push]
          simp only [List.mem_cons, List.mem_singleton, List.not_mem_nil, or_false, not_or]
          exact ⟨Nat.ne_of_lt (Nat.lt_succ_self _), Nat.ne_of_gt lS⟩
        have hl : items.size = xs.length := by
          have q := StrsAre.len_eq hit
          rw [Array.length_toList] at q
          exact q
        refine upd_loop (knd := kT P w) ((Walks.list hh3 _ l hneI items).toS) s.heap.objs.size neI xs hl hb (fun i v hv => ?_) (items.size - 0) 0 _ (by omega) (Nat.zero_le _)
          ⟨⟨_, Heap.get?_push_size _ rfl, rfl, rfl⟩, (hl1.push _)⟩ (lst_new (Heap.get?_push_of_some _ hS)) fun s' hm hS' => ?_
        · have hi : i < xs.length := by rw [← hl]; exact (Array.getElem?_eq_some_iff.mp hv).1
          obtain ⟨u, e⟩ := SS.strs_at hit i v (by rw [Array.getElem?_toList]; exact hv)
          refine ⟨xs[i], List.getElem?_eq_getElem hi, ?_, by rw [e]; rfl⟩
          rw [e, List.getD_eq_getElem?_getD, List.getElem?_eq_getElem hi]
          exact is_txt _ _
        · obtain ⟨h', g2, d', tk', os'⟩ := s'
          have eg : g2 = s.gens := hm.gens
          have ed : d' = s.drawn := hm.drawn
          have eo : os' = s.os := hm.os
          subst eg; subst ed; subst eo
          show wpAny _ _ _ _ _ _
          refine wpAny_pure ?_
          show wpAny _ _ (ret Value.none) _ _ _
          refine wpAny_pure ⟨rfl, h', tk', rfl, hS', fun b o e => ?_⟩
          have b0 : b < s.heap.objs.size := Heap.lt_size e
          refine hm.heap b o (fun z => ?_) (Heap.get?_push_of_some _ (Heap.get?_push_of_some _ e))
          rcases List.mem_cons.mp z with z | z
          · rw [z] at b0
            exact Nat.lt_irrefl _ b0
          · rw [List.mem_singleton, Heap.size_push] at z
            rw [z] at b0
            exact Nat.lt_irrefl _ (Nat.lt_trans (Nat.lt_succ_self _) b0)
      · cases r₂ with
        | error e => exact hr₂
        | ok fl₂ =>
          cases fl₂ with
          | ret r =>
            obtain ⟨rfl, h', tk, rfl, hS', hk'⟩ := hr₂
            repeat (any_goals (first | assumption | wp_step))
            exact h _ _ hS' hk'
          | _ => exact hr₂.elim
    | _ => exact hr.elim
end
end Sx
set_option Elab.async false
set_option linter.all false
set_option maxRecDepth 100000
set_option maxHeartbeats 4000000
namespace Sx
open PySem PySem.Spec PyProof.Rows L2
section
variable {P : Program} {w : World} {A : Around} {E : Value → Shared → Prop} {s : Shared}
theorem perm_of {κ : Type} [DecidableEq κ] : ∀ (l ks : List κ), l.Nodup → (∀ k ∈ l, k ∈ ks) → ks.length ≤ l.length → ks.Perm l
  | [], ks, _, _, h => by
    have e : ks = [] := List.eq_nil_of_length_eq_zero (Nat.le_zero.mp h)
    rw [e]
  | x :: l, ks, nd, hm, h => by
    obtain ⟨nx, nl⟩ := List.nodup_cons.mp nd
    have hx := hm x List.mem_cons_self
    refine (List.perm_cons_erase hx).trans (List.Perm.cons x (perm_of l (ks.erase x) nl (fun k hk => ?_) ?_))
    · exact (List.mem_erase_of_ne (fun e : k = x => nx (by rw [← e]; exact hk))).mpr (hm k (List.mem_cons_of_mem _ hk))
    · rw [List.length_erase_of_mem hx]
      rw [List.length_cons] at h
      omega
theorem strs_list : ∀ (l : List Value), (∀ v ∈ l, ∃ (k : Str) (u : Tok), v = Value.str k u) → ∃ ks : List Str, StrsAre l ks
  | [], _ => ⟨[], .nil⟩
  | v :: l, h => by
    obtain ⟨k, u, rfl⟩ := h v List.mem_cons_self
    obtain ⟨ks, r⟩ := strs_list l fun z hz => h z (List.mem_cons_of_mem _ hz)
    exact ⟨k :: ks, .cons k u r⟩
theorem strs_mem : ∀ {l : List Value} {ks : List Str}, StrsAre l ks → ∀ k, k ∈ ks ↔ ∃ u, Value.str k u ∈ l
  | _, _, .nil, k => by simp
  | _, _, .cons n t r, k => by
    rw [List.mem_cons, strs_mem r k]
    constructor
    · rintro (rfl | ⟨u, h⟩)
      · exact ⟨t, List.mem_cons_self⟩
      · exact ⟨u, List.mem_cons_of_mem _ h⟩
    · rintro ⟨u, h⟩
      rcases List.mem_cons.mp h with e | e
      · injection e with e1 _
        exact Or.inl e1
      · exact Or.inr ⟨u, e⟩
theorem txt_val {k : Str} {v : Value} (h : (kT P w).is k v = true) : ∃ u, v = .str k u := Value.isStrOf_shape (x := k) (v := v) h
theorem len_set {a : Addr} {l : List Str} {Q : Value → Shared → Prop} (R : Lst (kT P w) s.heap a l) (hl : l.length < 2 ^ 60) (h : Q (.int l.length (s.toks + 1)) { s with toks := s.toks + 1 + 1 }) : wpAny (model P w) A (call (.builtin "len") [.ref a]) Q E s := by
  obtain ⟨o, es, ep, t, ho, hex, hd, p⟩ := R
  have e : es.size = l.length := p.sz
  refine call_len_set ho hex hd p.ft (by rw [e]; omega) ?_
  rw [e]
  exact h
theorem sorted_set {a : Addr} {l : List Str} (nd : l.Nodup) {Q : Value → Shared → Prop} (R : Lst (kT P w) s.heap a l) (hh : A.handled = none)
    (hQ : ∀ s' p (out : Array Value) (c : Nat) (ns : List Str), (∀ b o, s.heap.get? b = some o → s'.heap.get? b = some o) → s'.gens = s.gens → s'.os = s.os → s.heap.objs.size ≤ p →
      s'.heap.get? p = some (seqObj "list" out c) → StrsAre out.toList ns → ns.Perm l → sortedS ns = true → Q (.ref p) s') :
    wpAny (model P w) A (call (.builtin "sorted") [.ref a]) Q E s := by
  obtain ⟨o, es, ep, t, ho, hex, hd, p⟩ := R
  refine Calls.call_function_entry kind_sorted plain_sorted entry_sorted (args_sorted1 _) ?_
  unfold Builtin.«sorted»
  refine wpAny_bind (m := checkCount "sorted" 1 1 _) (wpAny_pure ?_)
  refine wpAny_bind (L2.collect_set (A := A.in1) hh ⟨o, ho, hex.1, hd⟩ p.ft p.lt p.ri p.ld fun s1 vs k1 hz g1 o1 pm => ?_)
  have hvl : vs.length = l.length := by rw [pm.length_eq, List.length_map, Array.length_toList]; exact p.sz
  obtain ⟨ks, hS⟩ := strs_list vs fun v hv => by
    obtain ⟨e, he, q⟩ := List.mem_map.mp (pm.mem_iff.mp hv)
    obtain ⟨⟨k, hk, _⟩, _⟩ := p.el e he
    obtain ⟨u, eu⟩ := txt_val hk
    exact ⟨k, u, by rw [← q]; exact eu⟩
  have hkl : ks.length = l.length := by rw [← StrsAre.length hS, hvl]
  have mem : ∀ k, k ∈ ks ↔ k ∈ l := fun k => by
    rw [strs_mem hS k, p.mm k]
    constructor
    · rintro ⟨u, hu⟩
      obtain ⟨e, he, q⟩ := List.mem_map.mp (pm.mem_iff.mp hu)
      exact ⟨e, he, by rw [show e.2 = Value.str k u from q]; exact is_txt k u⟩
    · rintro ⟨e, he, q⟩
      obtain ⟨u, eu⟩ := txt_val q
      exact ⟨u, pm.mem_iff.mpr (List.mem_map.mpr ⟨e, he, eu⟩)⟩
  have hkp : ks.Perm l := perm_of l ks nd (fun k hk => (mem k).mpr hk) (by omega)
  have hL : vs.length ≤ sizeLine := by rw [hvl, ← p.sz]; exact fits_of_scanBound p.lt
  refine wpAny_bind (wpAny_newList ?_ hL)
  have hoL : (s1.heap.push (seqObj "list" vs.toArray 0)).get? s1.heap.objs.size = some (seqObj "list" vs.toArray 0) := Heap.get?_push_size _ rfl
  refine wpAny_bind (wpAny_holding (wpAny_call_entry slot_list_sort ⟨_, hoL, rfl⟩ entry_list_sort (list_sort_treeKAny strKind_oneLt hoL hS.keysOf (fun v₁ v₂ rest e => keyKind_strs (by rw [← e]; exact hS)) hL fun st' hp hs => ?_) (args_list_sort _)))
  obtain ⟨ns', a1, a2, a3⟩ := sorted_out_str hS hp hs
  obtain ⟨c, hc⟩ := sortedHeap_at (vs := vs) (out := (arrOf st').map (·.2)) hoL
  refine ⟨_, rfl, wpAny_pure ⟨_, rfl, hQ _ s1.heap.objs.size _ c ns' (fun b u e => ?_) g1 o1 hz hc a1 (a2.trans hkp) a3⟩⟩
  have q := k1 b u e
  have lt := Heap.lt_size q
  show (sortedHeap (s1.heap.push (seqObj "list" vs.toArray 0)) s1.heap.objs.size vs _).get? b = some u
  rw [sortedHeap_old (Nat.ne_of_lt lt) (by rw [size_push']; exact Nat.lt_succ_of_lt lt)]
  exact Heap.get?_push_of_some _ q
end
/-! ### over the layer -/
/-- a set of texts at an address -/
def SetT (P : Program) (w : World) (a : Addr) (l : List Str) : HO := .ext fun h => Lst (kT P w) h a l
section
variable {X : Cx}
theorem setT_new {w : World} {P : Program} {H : Hp} {h : Heap} {a : Addr} {l : List Str} (R : Lst (kT P w) h a l) : ObjOk P w H h a (SetT P w a l) := by
  have ⟨o, _, _, _, ho, _⟩ := R
  exact ⟨R, ⟨o, ho⟩, fun h1 h2 p k => Has.on p k⟩
theorem setT_get {pins : List (Addr × Obj)} {σ : L2.St} {H : Hp} {s : Shared} {a : Addr} {l : List Str} (I : Inv X pins σ H s) (ha : H a = some (SetT X.prog X.w a l)) : Lst (kT X.prog X.w) s.heap a l := (I.hok a _ ha).1
/-- set(x), x a text of ASCII signs -/
def rSetS (P : Program) (w : World) : List V → Hp → VK → Prop := fun vs H Q => ∃ x : Str, vs = [.str x] ∧ x.cps.all (· < 128) = true ∧ x.cps.size ≤ 4000 ∧ ∀ p, H p = none → Q (.ref p) (upd H p (SetT P w p (uniq [] (sgs x))))
theorem cr_setS (hc : X.calm = true) : CallR X (.type "set") (rSetS X.prog X.w) := by
  intro pins s σ H vs us Q I r h
  obtain ⟨x, rfl, ha, hb, q⟩ := h
  cases r with
  | cons r rr =>
    cases rr
    obtain ⟨t, rfl⟩ := r
    refine set_of_text (I.ok.hd hc) ha (by unfold scanBound; omega) fun h' tk R k => ?_
    have hn : H s.heap.objs.size = none := I.hok.fresh (Nat.le_refl _)
    exact ⟨.ref s.heap.objs.size, _, I.laid (t' := tk) k (Nat.le_refl _) (setT_new R), rfl, q _ hn⟩
/-- set(xs), xs a list of texts -/
def rSetL (K : PySem.W.Frag) (P : Program) (w : World) : List V → Hp → VK → Prop := fun vs H Q => ∃ (a : Addr) (xs : List Str), vs = [.ref a] ∧ SqL K H a (xs.map V.str) ∧ xs.length ≤ 4000 ∧ ∀ p, H p = none → Q (.ref p) (upd H p (SetT P w p (uniq [] xs)))
theorem cr_setL (hc : X.calm = true) : CallR X (.type "set") (rSetL X.K X.prog X.w) := by
  intro pins s σ H vs us Q I r h
  obtain ⟨a, xs, rfl, hs, hb, q⟩ := h
  obtain ⟨its, rv, hl, _⟩ := I.list hs
  rw [Vals.ref1 r]
  refine set_of_list (I.ok.hd hc) hl.isList rv.strs (by unfold scanBound; omega) fun h' tk R k => ?_
  have hn : H s.heap.objs.size = none := I.hok.fresh (Nat.le_refl _)
  exact ⟨.ref s.heap.objs.size, _, I.laid (t' := tk) k (Nat.le_refl _) (setT_new R), rfl, q _ hn⟩
/-- sorted(found), found a set of texts -/
def rSortT (P : Program) (w : World) : List V → Hp → VK → Prop := fun vs H Q => ∃ (a : Addr) (l : List Str), vs = [V.ref a] ∧ H a = some (SetT P w a l) ∧ l.Nodup ∧ l.length ≤ 100000 ∧
  ∀ (ns : List Str) (p : Addr), ns.Perm l → sortedS ns = true → H p = none → Q (.ref p) (upd H p (.lst (ns.map V.str)))
theorem cr_sortT (hc : X.calm = true) : CallR X (.builtin "sorted") (rSortT X.prog X.w) := by
  intro pins s σ H vs us Q I r h
  obtain ⟨a, l, rfl, ha, nd, hl, q⟩ := h
  have R := setT_get I ha
  rw [Vals.ref1 r]
  refine sorted_set nd R (I.ok.hd hc) fun s' p out c ns k g o hp hg hi hpm hs => ?_
  have hlen : (ns.map V.str).length ≤ sizeLine := by rw [List.length_map, hpm.length_eq]; exact Nat.le_trans hl (by decide)
  have hn : H p = none := I.hok.fresh hp
  have J : Inv X pins σ (upd H p (.lst (ns.map V.str))) { s with heap := s'.heap, gens := s'.gens, drawn := s'.drawn, toks := s'.toks } :=
    I.call (ch := []) (Un.laid k hp hn) (I.hok.laid k hp ⟨hlen, out.toList, c, vals_of_strs hi, hg⟩) (by rw [g]; exact I.bare) (fun _ z => nomatch z)
  have e : s' = { s with heap := s'.heap, gens := s'.gens, drawn := s'.drawn, toks := s'.toks } := by
    cases s'
    cases s
    cases o
    rfl
  rw [e]
  exact ⟨.ref p, _, J, rfl, q ns p hpm hs hn⟩
/-- len(found), found a set of texts -/
def rLenT (P : Program) (w : World) : List V → Hp → VK → Prop := fun vs H Q => ∃ (a : Addr) (l : List Str), vs = [V.ref a] ∧ H a = some (SetT P w a l) ∧ l.length ≤ 100000 ∧ Q (.int l.length) H
theorem cr_lenT : CallR X (.builtin "len") (rLenT X.prog X.w) := by
  intro pins s σ H vs us Q I r h
  obtain ⟨a, l, rfl, ha, hl, q⟩ := h
  rw [Vals.ref1 r]
  exact len_set (setT_get I ha) (by omega) ⟨.int l.length, H, I.tok _, ⟨_, rfl⟩, q⟩
end
end Sx
set_option Elab.async false
set_option linter.all false
set_option maxRecDepth 100000
set_option maxHeartbeats 4000000
/-! Rx: some more rules over the layer -/
namespace Rx
open PySem PySem.Spec PyProof.Rows L2
section
variable {X : Cx}
/-- i ** j of great whole numbers -/
def CPowB (i j : Int) : Prop := 0 ≤ j ∧ (Builtin.Int.intBits i : Int) * j ≤ 2 ^ 27
theorem op_powB : OpR X (binaryOp .Pow) (rI CPowB fun i j => .int (i ^ j.toNat)) := by
  intro pins s σ H x y v u Q I rx ry h
  obtain ⟨i, j, rfl, rfl, hc, q⟩ := h
  obtain ⟨t, rfl⟩ := rx
  obtain ⟨t', rfl⟩ := ry
  exact pow_int hc.1 hc.2 ⟨.int (i ^ j.toNat), H, I.tok _, ⟨_, rfl⟩, q⟩
/-- list(x), x a text -/
def rListS : List V → Hp → VK → Prop := fun vs H Q => ∃ x : Str, vs = [.str x] ∧ x.cps.size ≤ 100000 ∧ ∀ p, H p = none → Q (.ref p) (upd H p (.lst ((Sx.sgs x).map V.str)))
theorem paired_get {α β : Type} {F : α → β → Prop} : ∀ {l : List α} {r : List β}, l.length = r.length → (∀ (i : Nat) a b, l[i]? = some a → r[i]? = some b → F a b) → Paired F l r
  | [], [], _, _ => .nil
  | [], _ :: _, h, _ => by simp at h
  | _ :: _, [], h, _ => by simp at h
  | a :: l, b :: r, h, g => .cons (g 0 a b rfl rfl) (paired_get (by simpa using h) fun i x y hx hy => g (i + 1) x y (by simpa using hx) (by simpa using hy))
theorem items_signs {x : Str} {acc : Array Value} (h : ItemsOf (SignAt x) acc x.cps.size) : Vals ((Sx.sgs x).map V.str) acc.toList := by
  refine paired_get ?_ fun i a b ha hb => ?_
  · rw [List.length_map, Sx.sgs, List.length_map, Array.length_toList, Array.length_toList, h.1]
  · rw [Array.getElem?_toList] at hb
    obtain ⟨c, u, hc, rfl⟩ := h.2 i b hb
    rw [List.getElem?_map, Sx.sgs, List.getElem?_map, Array.getElem?_toList, hc] at ha
    obtain rfl : V.str ⟨#[c]⟩ = a := Option.some.inj ha
    exact ⟨u, rfl⟩
theorem cr_listS (hc : X.calm = true) : CallR X (.type "list") rListS := by
  intro pins s σ H vs us Q I r h
  obtain ⟨x, rfl, hb, q⟩ := h
  cases r with
  | cons r rr =>
    cases rr
    obtain ⟨t, rfl⟩ := r
    have hz : x.cps.size ≤ sizeLine := Nat.le_trans hb (by decide)
    refine call_list_str (I.ok.hd hc) x t (fun h' tk acc c k hS hi => ?_) hz
    have hn : H s.heap.objs.size = none := I.hok.fresh (Nat.le_refl _)
    have hl : ((Sx.sgs x).map V.str).length = x.cps.size := by
      rw [List.length_map, Sx.sgs, List.length_map, Array.length_toList]
    have ok : ObjOk X.prog X.w (upd H s.heap.objs.size (.lst ((Sx.sgs x).map V.str))) h' s.heap.objs.size (.lst ((Sx.sgs x).map V.str)) := ⟨by rw [hl]; exact hz, acc.toList, c, items_signs hi, hS⟩
    exact ⟨.ref s.heap.objs.size, _, I.laid (t' := tk) k (Nat.le_refl _) ok, rfl, q _ hn⟩
/-- x[::k] of a text, k the number -1 -/
def turned (x : Str) : Str := ⟨x.cps.toList.reverse.toArray⟩
def tRevS (te : TE) (th : TO) : TE := fun σ H Q => te σ H fun x H1 => th σ H1 fun o H2 => ∃ z, x = .str z ∧ o = some (-1) ∧ z.length ≤ 100000 ∧ Q (.str (turned z)) H2
theorem pe_revS {e k : Expr} {te : TE} {th : TO} {p3 pos : Pos} (he : PE X e te) (hk : PO X (some k) th) : PE X (.Subscript e (.Slice none none (some k) p3) pos) (tRevS te th) := by
  refine ⟨fun pins s σ H Q I h => ?_⟩
  refine Subscript_ (thn (he.run pins s σ H _ I h) fun v s1 ⟨x, H1, I1, r1, q1⟩ => ?_)
  refine wpAny_Slice (thn (po_none.run pins s1 σ H1 (fun o H2 => o = none ∧ H2 = H1) I1 ⟨rfl, rfl⟩) fun vl s2 ⟨l, H2, I2, pl, el, e2⟩ => ?_)
  subst el e2
  refine thn (po_none.run pins s2 σ H2 (fun o H3 => o = none ∧ H3 = H2) I2 ⟨rfl, rfl⟩) fun vu s3 ⟨u, H3, I3, pu, eu, e3⟩ => ?_
  subst eu e3
  refine thn (hk.run pins s3 σ H3 _ I3 q1) fun vs s4 ⟨o, H4, I4, ps, q2⟩ => ?_
  obtain ⟨z, rfl, rfl, hz, q⟩ := q2
  obtain ⟨t, rfl⟩ := r1
  have I5 : Inv X pins σ H4 { s4 with heap := s4.heap.push { cls := .type "slice", data := .fields #[vl, vu, vs] } } := I4.kept (t' := s4.toks) fun b ob q => Heap.get?_push_of_some _ q
  obtain ⟨l1, rfl, el⟩ := IsPart.raw pl
  obtain ⟨u1, rfl, eu⟩ := IsPart.raw pu
  obtain ⟨k1, rfl, ek⟩ := IsPart.raw ps
  have hl1 : l1 = none := by cases l1 <;> simp_all
  have hu1 : u1 = none := by cases u1 <;> simp_all
  subst hl1 hu1
  show wpAny (model X.prog X.w) X.A (subscriptTail e (.Slice none none (some k) p3) (.str z t) (.ref s4.heap.objs.size)) (EP X pins σ Q) X.xe { s4 with heap := s4.heap.push { cls := .type "slice", data := .fields #[partValue none, partValue none, partValue k1] } }
  refine tail_any (ops := [.ref s4.heap.objs.size, .str z t]) (typeIs_str _ _ _) PySem.F.slot_str_getitem.lookup ?_ (by with_unfolding_all rfl)
  refine wpAny_getItem_str_slice (l := none) (u := none) (st := k1) ⟨_, Heap.get?_push_size _ rfl, rfl, rfl⟩ (by rw [ek]; rfl) ?_
  have hp : slicePicked z none none k1 = (List.range z.length).reverse := by
    unfold slicePicked
    rw [ek]
    show sliceRange ((z.length : Int) - 1) (-1) (-1) = _
    rw [PySem.W.krv_sliceRange, PySem.W.krv_range]
  unfold sliceMade
  rw [hp, ek]
  have e0 : (((some (-1) : Option Int).getD 1) == 1 && (List.range z.length).reverse.length == z.length) = false := by
    show (((-1 : Int) == 1) && _) = false
    rfl
  rw [if_neg (by rw [e0]; decide)]
  have e1 : ((List.range z.length).reverse.filterMap (z.cps[·]?)).toArray = (turned z).cps := by
    rw [List.filterMap_reverse, show z.length = z.cps.size from rfl, PySem.W.krv_all]
    rfl
  rw [e1]
  refine ⟨?_, .str _, H4, I5.tok _, ⟨_, rfl⟩, q⟩
  show (turned z).cps.size ≤ sizeLine
  have : (turned z).cps.size = z.cps.size := by simp [turned]
  rw [this]
  exact Nat.le_trans hz (by decide)
end
end Rx
set_option Elab.async false
set_option linter.all false
set_option maxRecDepth 100000
set_option maxHeartbeats 4000000
/-! Bx: what all the laws' texts share: texts as lists of signs, loops over texts and ranges, small facts of heaps -/
namespace Bx
open PySem PySem.Spec PyProof.Rows L2 Evl
abbrev mk (l : List Nat) : Str := ⟨l.toArray⟩
abbrev tx (l : List Nat) : V := .str (mk l)
theorem mk_list (l : List Nat) : (mk l).cps.toList = l := rfl
theorem mk_eq (z : Str) : z = mk z.cps.toList := rfl
theorem mk_inj {l m : List Nat} : mk l = mk m ↔ l = m := ⟨fun h => congrArg (fun z : Str => z.cps.toList) h, fun h => h ▸ rfl⟩
theorem tx_inj {l m : List Nat} : tx l = tx m ↔ l = m := ⟨fun h => mk_inj.mp (V.str.inj h), fun h => h ▸ rfl⟩
theorem mk_len (l : List Nat) : (mk l).length = l.length := by show l.toArray.size = l.length; simp
theorem mk_app (l m : List Nat) : mk l ++ mk m = mk (l ++ m) := by
  show Str.append (mk l) (mk m) = _
  simp [Str.append]
theorem sgs_mk (l : List Nat) : Sx.sgs (mk l) = l.map fun c => mk [c] := rfl
theorem cut_mk (l : List Nat) (a b : Option Int) : cutS (mk l) a b = mk ((l.drop (HT.sIx l.length 0 a)).take (HT.sIx l.length l.length b - HT.sIx l.length 0 a)) := by
  unfold cutS
  rw [mk_len]
theorem turned_mk (l : List Nat) : Rx.turned (mk l) = mk l.reverse := rfl
theorem ix_nat (n d : Nat) (i : Nat) : HT.sIx n d (some (i : Int)) = min i n := HT.sIx_nat n d i
theorem cut_to (l : List Nat) (i : Nat) : cutS (mk l) none (some (i : Int)) = mk (l.take i) := by
  rw [cut_mk, ix_nat, HT.sIx_none, List.drop_zero, Nat.sub_zero]
  congr 1
  by_cases h : i ≤ l.length
  · rw [Nat.min_eq_left h]
  · rw [Nat.min_eq_right (by omega), List.take_of_length_le (Nat.le_refl _), List.take_of_length_le (by omega)]
theorem cut_from (l : List Nat) (i : Nat) : cutS (mk l) (some (i : Int)) none = mk (l.drop i) := by
  rw [cut_mk, ix_nat, HT.sIx_none]
  congr 1
  by_cases h : i ≤ l.length
  · rw [Nat.min_eq_left h, List.take_of_length_le (by rw [List.length_drop]; omega)]
  · rw [Nat.min_eq_right (by omega), List.drop_of_length_le (Nat.le_refl _), List.drop_of_length_le (show l.length ≤ i by omega), List.take_nil]
/-- small letters alone -/
def Low (l : List Nat) : Prop := ∀ c ∈ l, 97 ≤ c ∧ c ≤ 122
theorem Low.app {l m : List Nat} (a : Low l) (b : Low m) : Low (l ++ m) := fun c h => (List.mem_append.mp h).elim (a c) (b c)
theorem Low.sub {l m : List Nat} (a : Low l) (h : ∀ c ∈ m, c ∈ l) : Low m := fun c hc => a c (h c hc)
theorem Low.nil : Low [] := fun c h => by simp at h
theorem Low.asc {l : List Nat} (a : Low l) : (mk l).cps.all (· < 128) = true := by
  rw [← Array.all_toList, List.all_eq_true]
  intro c hc
  have := a c hc
  exact decide_eq_true (by omega)
/-! ### heaps -/
theorem ex_upd {H : Hp} {p : Addr} {o : HO} (h : H p = none) : Ex H (upd H p o) := Ex.new h
/-- all but one object as before -/
def Xg (g : Addr) (H H' : Hp) : Prop := ∀ a o, a ≠ g → H a = some o → H' a = some o
theorem Xg.of {g : Addr} {H H' : Hp} (e : Ex H H') : Xg g H H' := fun a o _ h => e a o h
theorem Xg.trans {g : Addr} {H H1 H2 : Hp} (a : Xg g H H1) (b : Xg g H1 H2) : Xg g H H2 := fun x o n h => b x o n (a x o n h)
theorem Xg.refl (g : Addr) (H : Hp) : Xg g H H := fun _ _ _ h => h
theorem Xg.upd {g : Addr} {H H' : Hp} {o : HO} (e : Xg g H H') : Xg g H (L2.upd H' g o) := fun a u n h => by
  rw [upd_ne n]
  exact e a u n h
theorem Xg.fresh {g : Addr} {H H' : Hp} (e : Xg g H H') (hg : H' g ≠ none) {p : Addr} (h : H' p = none) : H p = none := by
  cases q : H p with
  | none => rfl
  | some o =>
    by_cases z : p = g
    · rw [z] at h
      exact absurd h hg
    · rw [e p o z q] at h
      cases h
/-- an extension, by what each is -/
theorem ex_ne {H : Hp} {a b : Addr} {o : HO} (h : H a = some o) (h' : H b = none) : a ≠ b := ne_of_none h h'
section
variable {K : PySem.W.Frag} {σ : L2.St} {H : Hp} {D : Ends} {tu : TS} {te ta : TE}
/-- for c in a text -/
theorem forS {j : Nat} {l : List Nat} (h : Ev te σ H (tx l)) (Pv : Nat → L2.St → Hp → Prop) (h0 : ∀ H1, Ex H H1 → Pv 0 σ H1)
    (hs : ∀ i c σ' H', l[i]? = some c → Pv i σ' H' → tu { D with nx := Pv (i + 1), ct := Pv (i + 1), bk := D.nx } (σ'.set j (some (tx [c]))) H')
    (hd : ∀ σ' H', Pv l.length σ' H' → D.nx σ' H') : tFor (iStr te) (gName j) tu D σ H :=
  h H (Ex.refl H) _ fun H1 e => ⟨mk l, rfl, by
    have w := walk_str (z := mk l)
    refine for_it w Pv (h0 H1 e) (fun _ _ _ _ _ => trivial) (fun i x σ' H' H2 hi p y => ?_) (fun σ' H' p => hd σ' H' ?_)
    · obtain ⟨rfl, c, hc, rfl⟩ := y
      refine hs i c σ' H2 ?_ p
      rw [← hc]
      simp
    · have e : (mk l).cps.size = l.length := by simp
      rw [← e]
      exact p⟩
/-- for i in reversed(range(n)) -/
theorem forRv {j : Nat} {n : Int} (h : Ev ta σ H (.int n)) (hn : 0 ≤ n ∧ n ≤ 100000) (Pv : Nat → L2.St → Hp → Prop) (h0 : ∀ H1, Ex H H1 → Pv 0 σ H1)
    (hs : ∀ (i : Nat) σ' H', (i : Int) < n → Pv i σ' H' → tu { D with nx := Pv (i + 1), ct := Pv (i + 1), bk := D.nx } (σ'.set j (some (.int (n - 1 - i)))) H')
    (hd : ∀ σ' H', Pv n.toNat σ' H' → D.nx σ' H') : tFor (iRevR (tRg1 ta)) (gName j) tu D σ H :=
  h H (Ex.refl H) _ fun H1 e => ⟨n, rfl, by omega, by omega, by omega, by omega, by
    have z : (n - 0).toNat = n.toNat := by rw [Int.sub_zero]
    rw [z]
    refine for_rangeC Pv (h0 H1 e) (fun i σ' H' hi p => ?_) hd
    have q : (0 : Int) + ((n.toNat : Nat) : Int) - 1 + (i : Nat) * (-1) = n - 1 - i := by omega
    rw [q]
    exact hs i σ' H' (by omega) p⟩
theorem rng_down {a : Int} (h0 : -1 ≤ a) (h1 : a ≤ 100000) : RgC a (-1) (-1) (a + 1).toNat := by
  have q := RgC.neg (i := a) (j := -1) (by omega) (by omega) (by omega) (by omega)
  have e : a - -1 = a + 1 := by omega
  rwa [e] at q
end
end Bx
namespace Bx
open PySem PySem.Spec PyProof.Rows L2 Evl
theorem sign_facts : ∀ c, c < 128 → (97 ≤ c → c ≤ 122 → Unicode.isAlpha c = true ∧ Unicode.isLower c = true ∧ (Unicode.isUpper c || Unicode.isTitle c) = false) := by decide +kernel
theorem low_ascii {l : List Nat} (h : Low l) : Txt.isascii (mk l) = true := h.asc
theorem low_alpha {l : List Nat} (h : Low l) (n : l ≠ []) : Txt.isalpha (mk l) = true := by
  unfold Txt.isalpha
  rw [Bool.and_eq_true]
  refine ⟨decide_eq_true ?_, ?_⟩
  · rw [mk_len]
    exact List.length_pos_iff.mpr n
  · rw [← Array.all_toList, List.all_eq_true]
    intro c hc
    have := h c hc
    exact (sign_facts c (by omega) (by omega) (by omega)).1
theorem low_lower {l : List Nat} (h : Low l) (n : l ≠ []) : Txt.islower (mk l) = true := by
  unfold Txt.islower
  rw [Bool.and_eq_true]
  constructor
  · rw [← Array.any_toList, List.any_eq_true]
    cases l with
    | nil => exact absurd rfl n
    | cons c r =>
      have := h c List.mem_cons_self
      exact ⟨c, List.mem_cons_self, (sign_facts c (by omega) (by omega) (by omega)).2.1⟩
  · rw [Bool.not_eq_true', ← Array.any_toList, List.any_eq_false]
    intro c hc
    have := h c hc
    rw [(sign_facts c (by omega) (by omega) (by omega)).2.2]
    decide
end Bx
namespace Bx
open PySem PySem.Spec PyProof.Rows L2 Evl
theorem mul_ok {i j : Int} (hi : i.natAbs < 2 ^ 9000) (hj : j.natAbs < 2 ^ 9000) : CMulW i j := wide_mul hi hj (by decide) (by decide) (by decide)
theorem abs_nat {n a : Nat} (h : n < 2 ^ a) : ((n : Nat) : Int).natAbs < 2 ^ a := by rw [Int.natAbs_natCast]; exact h
theorem small_pow {n : Nat} (h : n < 2 ^ 64) : n < 2 ^ 9000 := Nat.lt_of_lt_of_le h (Nat.pow_le_pow_right (by decide) (by decide))
theorem small_abs {i : Int} (h : i.natAbs < 2 ^ 64) : i.natAbs < 2 ^ 9000 := small_pow h
/-! ### data that are compared -/
theorem eqvAll_ints : ∀ ns ms : List Int, PyData.eqvAll (ns.map .int) (ms.map .int) = decide (ns = ms)
  | [], [] => by simp [PyData.eqvAll]
  | [], _ :: _ => by simp [PyData.eqvAll]
  | _ :: _, [] => by simp [PyData.eqvAll]
  | n :: ns, m :: ms => by
    show ((n == m) && PyData.eqvAll (ns.map .int) (ms.map .int)) = _
    rw [eqvAll_ints ns ms]
    by_cases h1 : n = m <;> by_cases h2 : ns = ms <;> simp [h1, h2]
theorem eqvAll_strs : ∀ ns ms : List Str, PyData.eqvAll (ns.map .str) (ms.map .str) = decide (ns = ms)
  | [], [] => by simp [PyData.eqvAll]
  | [], _ :: _ => by simp [PyData.eqvAll]
  | _ :: _, [] => by simp [PyData.eqvAll]
  | n :: ns, m :: ms => by
    show ((n == m) && PyData.eqvAll (ns.map .str) (ms.map .str)) = _
    rw [eqvAll_strs ns ms]
    by_cases h1 : n = m <;> by_cases h2 : ns = ms <;> simp [h1, h2]
theorem dpAll_ints {K : PySem.W.Frag} {H : Hp} : ∀ ns : List Int, DpAll K H (ns.map V.int) (ns.map PyData.int)
  | [] => .nil
  | n :: ns => .cons (.int n) (dpAll_ints ns)
theorem dpAll_strs {K : PySem.W.Frag} {H : Hp} : ∀ ns : List Str, DpAll K H (ns.map V.str) (ns.map PyData.str)
  | [] => .nil
  | n :: ns => .cons (.str n) (dpAll_strs ns)
theorem flat_shaped (ds : List PyData) (h : ∀ d ∈ ds, PyData.canLay0 d = true ∧ PyData.depth d = 0) : SeqAt.shaped (.list ds) = true ∧ SeqAt.shaped (.tuple ds) = true := by
  have a : PyData.canLayAll0 ds = true ∧ PyData.depthAll ds = 0 := by
    induction ds with
    | nil => exact ⟨rfl, rfl⟩
    | cons d ds ih =>
      obtain ⟨i1, i2⟩ := ih fun x hx => h x (List.mem_cons_of_mem _ hx)
      obtain ⟨h1, h2⟩ := h d List.mem_cons_self
      refine ⟨?_, ?_⟩
      · show (PyData.canLay0 d && PyData.canLayAll0 ds) = true
        rw [h1, i1]
        rfl
      · show max (PyData.depth d) (PyData.depthAll ds) = 0
        rw [h2, i2]
        rfl
  have z : decide (PyData.depthAll ds + 1 ≤ 64) = true := by
    rw [a.2]
    decide
  constructor
  · show (PyData.canLayAll0 ds && decide (PyData.depthAll ds + 1 ≤ 64)) = true
    rw [a.1, z]
    rfl
  · show (PyData.canLayAll0 ds && decide (PyData.depthAll ds + 1 ≤ 64)) = true
    rw [a.1, z]
    rfl
theorem shaped_ints (ns : List Int) : SeqAt.shaped (.list (ns.map PyData.int)) = true := (flat_shaped _ fun d hd => by
  obtain ⟨n, _, rfl⟩ := List.mem_map.mp hd
  exact ⟨rfl, rfl⟩).1
theorem str_ok {l : List Nat} (h : Low l) : PyData.canLay0 (.str (mk l)) = true := by
  show (mk l).cps.all (· < 0x110000) = true
  rw [← Array.all_toList, List.all_eq_true]
  intro c hc
  have := h c hc
  exact decide_eq_true (by omega)
theorem shaped_strs (ns : List Str) (h : ∀ z ∈ ns, Low z.cps.toList) : SeqAt.shaped (.list (ns.map PyData.str)) = true := (flat_shaped _ fun d hd => by
  obtain ⟨n, hn, rfl⟩ := List.mem_map.mp hd
  exact ⟨str_ok (h n hn), rfl⟩).1
/-! ### sorted texts -/
def leS (a b : Str) : Prop := a.cps.toList ≤ b.cps.toList
theorem leS_of {a b : Str} (h : ltCps b.cps.toList a.cps.toList = false) : leS a b := by
  rw [ltCps_eq] at h
  exact of_decide_eq_false h
theorem rise_all : ∀ (l : List Str) (p : Str), risingS p l = true → (p :: l).Pairwise leS
  | [], p, _ => List.pairwise_singleton _ _
  | y :: r, p, h => by
    have h' : (!ltCps y.cps.toList p.cps.toList && risingS y r) = true := h
    rw [Bool.and_eq_true, Bool.not_eq_true'] at h'
    have ih := rise_all r y h'.2
    have py := leS_of h'.1
    refine List.pairwise_cons.mpr ⟨fun x hx => ?_, ih⟩
    rcases List.mem_cons.mp hx with e | e
    · rw [e]
      exact py
    · exact List.le_trans py ((List.pairwise_cons.mp ih).1 x e)
theorem sorted_all {l : List Str} (h : sortedS l = true) : l.Pairwise leS := by
  cases l with
  | nil => exact List.Pairwise.nil
  | cons p r => exact rise_all r p h
theorem leS_anti {a b : Str} (h : leS a b) (h' : leS b a) : a = b := by
  have e := List.le_antisymm h h'
  have ea := mk_eq a
  have eb := mk_eq b
  rw [ea, eb, e]
/-- the one sorted list -/
theorem sorted_one {l m : List Str} (hp : l.Perm m) (hl : sortedS l = true) (hm : m.Pairwise leS) : l = m :=
  List.Perm.eq_of_pairwise (le := leS) (fun _ _ _ _ => leS_anti) (sorted_all hl) hm hp
theorem sing_le {a b : Nat} (h : a < b) : leS (mk [a]) (mk [b]) := by
  show [a] ≤ [b]
  refine List.not_lt.mp fun z => ?_
  have := List.cons_lt_cons_iff.mp z
  rcases this with q | ⟨q, _⟩ <;> omega
theorem signs_sorted {L : List Nat} (h : L.Pairwise (· < ·)) : (L.map fun c => mk [c]).Pairwise leS := by
  rw [List.pairwise_map]
  exact h.imp sing_le
theorem sing_inj {a b : Nat} (h : mk [a] = mk [b]) : a = b := by
  have := mk_inj.mp h
  simpa using this
theorem signs_nodup {L : List Nat} (h : L.Nodup) : (L.map fun c => mk [c]).Nodup := by
  unfold List.Nodup at h ⊢
  rw [List.pairwise_map]
  exact h.imp fun n e => n (sing_inj e)
theorem uniq_id {κ : Type} [DecidableEq κ] : ∀ (ks acc : List κ), (acc ++ ks).Nodup → Sx.uniq acc ks = acc ++ ks
  | [], acc, _ => by rw [Sx.uniq, List.append_nil]
  | k :: r, acc, h => by
    have n : k ∉ acc := fun hk => by
      rw [List.nodup_append] at h
      exact h.2.2 k hk k List.mem_cons_self rfl
    rw [Sx.uniq, if_neg n, uniq_id r (acc ++ [k]) (by rw [List.append_assoc]; exact h), List.append_assoc]
    rfl
theorem lt_nodup {L : List Nat} (h : L.Pairwise (· < ·)) : L.Nodup := h.imp fun a e => by omega
/-- an alphabet -/
structure Alph (L : List Nat) : Prop where
  low : Low L
  up : L.Pairwise (· < ·)
  one : 1 ≤ L.length
  four : L.length ≤ 4
end Bx
set_option linter.all false
/-! Mx: counts of words in texts: the mathematics, over lists of signs -/
namespace Mx
def cnt : List Nat → List Nat → Nat
  | [], _ => 1
  | _ :: _, [] => 0
  | a :: w, b :: t => cnt (a :: w) t + if a = b then cnt w t else 0
theorem cnt_nil (t : List Nat) : cnt [] t = 1 := by cases t <;> rfl
theorem cnt_e (a : Nat) (w : List Nat) : cnt (a :: w) [] = 0 := rfl
theorem cnt_c (a b : Nat) (w t : List Nat) : cnt (a :: w) (b :: t) = cnt (a :: w) t + if a = b then cnt w t else 0 := by rw [cnt]
theorem cnt_empty : ∀ w : List Nat, w ≠ [] → cnt w [] = 0
  | [], h => absurd rfl h
  | _ :: _, _ => rfl
theorem cnt_snoc : ∀ (p u : List Nat) (a c : Nat), cnt (u ++ [a]) (p ++ [c]) = cnt (u ++ [a]) p + if a = c then cnt u p else 0
  | [], [], a, c => by
    show cnt [a] [c] = cnt [a] [] + if a = c then cnt [] [] else 0
    rw [cnt_c]
  | [], x :: u, a, c => by
    show cnt (x :: (u ++ [a])) [c] = cnt (x :: (u ++ [a])) [] + if a = c then cnt (x :: u) [] else 0
    rw [cnt_c, cnt_e, cnt_e, cnt_empty (u ++ [a]) (by simp)]
    simp
  | b :: p, [], a, c => by
    have ih := cnt_snoc p [] a c
    show cnt [a] (b :: (p ++ [c])) = cnt [a] (b :: p) + if a = c then cnt [] (b :: p) else 0
    simp only [List.nil_append] at ih
    rw [cnt_c, ih, cnt_c]
    simp only [cnt_nil]
    omega
  | b :: p, x :: u, a, c => by
    have i1 := cnt_snoc p (x :: u) a c
    have i2 := cnt_snoc p u a c
    show cnt (x :: (u ++ [a])) (b :: (p ++ [c])) = cnt (x :: (u ++ [a])) (b :: p) + if a = c then cnt (x :: u) (b :: p) else 0
    simp only [List.cons_append] at i1
    rw [cnt_c, i1, cnt_c, cnt_c, i2]
    by_cases h1 : x = b <;> by_cases h2 : a = c <;> simp [h1, h2] <;> omega
theorem cnt_rev : ∀ (t w : List Nat), cnt w.reverse t.reverse = cnt w t
  | [], [] => rfl
  | [], a :: w => by
    rw [cnt_e]
    exact cnt_empty _ (by simp)
  | b :: t, [] => by rw [List.reverse_nil, cnt_nil, cnt_nil]
  | b :: t, a :: w => by
    rw [List.reverse_cons, List.reverse_cons, cnt_snoc, cnt_rev t w, ← List.reverse_cons, cnt_rev t (a :: w), cnt_c]
/-- the ways to cut a word in two -/
def splits : List Nat → List (List Nat × List Nat)
  | [] => [([], [])]
  | a :: w => ([], a :: w) :: (splits w).map fun p => (a :: p.1, p.2)
theorem sum_map_add {α : Type} (f g : α → Nat) : ∀ l : List α, (l.map fun x => f x + g x).sum = (l.map f).sum + (l.map g).sum
  | [] => rfl
  | x :: l => by
    simp only [List.map_cons, List.sum_cons]
    rw [sum_map_add f g l]
    omega
theorem sum_map_zero {α : Type} : ∀ l : List α, (l.map fun _ => 0).sum = 0
  | [] => rfl
  | x :: l => by simp only [List.map_cons, List.sum_cons]; rw [sum_map_zero l]
theorem cnt_app : ∀ (s t w : List Nat), cnt w (s ++ t) = ((splits w).map fun p => cnt p.1 s * cnt p.2 t).sum
  | [], t, [] => by simp [splits, cnt_nil]
  | [], t, a :: w => by
    rw [splits, List.map_cons, List.sum_cons, List.map_map]
    have e : ((splits w).map ((fun p : List Nat × List Nat => cnt p.1 [] * cnt p.2 t) ∘ fun p => (a :: p.1, p.2))).sum = 0 := by
      rw [← sum_map_zero (splits w)]
      congr 1
      apply List.map_congr_left
      intro p _
      show cnt (a :: p.1) [] * cnt p.2 t = 0
      rw [cnt_e, Nat.zero_mul]
    rw [e, cnt_nil, Nat.one_mul, List.nil_append]
    rfl
  | b :: s, t, [] => by simp [splits, cnt_nil]
  | b :: s, t, a :: w => by
    rw [List.cons_append, cnt_c, cnt_app s t (a :: w), cnt_app s t w]
    rw [splits, List.map_cons, List.sum_cons, List.map_map, List.map_cons, List.sum_cons, List.map_map]
    have e : ((splits w).map ((fun p : List Nat × List Nat => cnt p.1 (b :: s) * cnt p.2 t) ∘ fun p => (a :: p.1, p.2))).sum =
        ((splits w).map ((fun p : List Nat × List Nat => cnt p.1 s * cnt p.2 t) ∘ fun p => (a :: p.1, p.2))).sum + if a = b then ((splits w).map fun p => cnt p.1 s * cnt p.2 t).sum else 0 := by
      by_cases h : a = b
      · rw [if_pos h, ← sum_map_add]
        congr 1
        apply List.map_congr_left
        intro p _
        show cnt (a :: p.1) (b :: s) * cnt p.2 t = cnt (a :: p.1) s * cnt p.2 t + cnt p.1 s * cnt p.2 t
        rw [cnt_c, if_pos h, Nat.add_mul]
      · rw [if_neg h, Nat.add_zero]
        congr 1
        apply List.map_congr_left
        intro p _
        show cnt (a :: p.1) (b :: s) * cnt p.2 t = cnt (a :: p.1) s * cnt p.2 t
        rw [cnt_c, if_neg h, Nat.add_zero]
    rw [e]
    simp only [cnt_nil]
    omega
theorem splits_range : ∀ w : List Nat, (List.range (w.length + 1)).map (fun i => (w.take i, w.drop i)) = splits w
  | [] => rfl
  | a :: w => by
    rw [List.length_cons, List.range_succ_eq_map, List.map_cons, List.map_map, splits, ← splits_range w, List.map_map]
    rfl
/-- the same, as it is added up in whole numbers -/
theorem cnt_cuts (w s t : List Nat) : ((cnt w (s ++ t) : Nat) : Int) = ((List.range (w.length + 1)).map fun i => ((cnt (w.take i) s : Nat) : Int) * ((cnt (w.drop i) t : Nat) : Int)).sum := by
  rw [cnt_app, ← splits_range, List.map_map]
  generalize List.range (w.length + 1) = l
  induction l with
  | nil => rfl
  | cons i l ih =>
    simp only [List.map_cons, List.sum_cons, Function.comp] at ih ⊢
    rw [Int.natCast_add, ih, Int.natCast_mul]
theorem cnt_front (w t : List Nat) (c : Nat) : cnt w (c :: t) = cnt w t + if w.take 1 = [c] then cnt (w.drop 1) t else 0 := by
  cases w with
  | nil => simp [cnt_nil]
  | cons a w =>
    rw [cnt_c]
    by_cases h : a = c <;> simp [h]
theorem cnt_back (w t : List Nat) (c : Nat) : cnt w (t ++ [c]) = cnt w t + if w.drop (w.length - 1) = [c] then cnt (w.take (w.length - 1)) t else 0 := by
  rcases List.eq_nil_or_concat w with rfl | ⟨u, a, rfl⟩
  · simp [cnt_nil]
  · rw [List.concat_eq_append, cnt_snoc]
    have e1 : (u ++ [a]).length - 1 = u.length := by simp
    rw [e1, List.drop_left, List.take_left]
    by_cases h : a = c <;> simp [h]
theorem cnt_filter : ∀ (t w : List Nat) (S : Nat → Bool), (∀ a ∈ w, S a = true) → cnt w (t.filter S) = cnt w t
  | [], w, S, _ => rfl
  | b :: t, [], S, _ => by rw [cnt_nil, cnt_nil]
  | b :: t, a :: w, S, h => by
    rw [List.filter_cons]
    by_cases hb : S b = true
    · rw [if_pos hb, cnt_c, cnt_c, cnt_filter t (a :: w) S h, cnt_filter t w S fun x hx => h x (List.mem_cons_of_mem _ hx)]
    · rw [if_neg hb, cnt_filter t (a :: w) S h, cnt_c]
      have n : a ≠ b := fun e => hb (e ▸ h a List.mem_cons_self)
      rw [if_neg n, Nat.add_zero]
def twice : List Nat → List Nat
  | [] => []
  | c :: t => c :: c :: twice t
theorem cnt_twice : ∀ (t w : List Nat), w.Nodup → cnt w (twice t) = 2 ^ w.length * cnt w t
  | [], [], _ => rfl
  | [], a :: w, _ => by rw [twice, cnt_e, Nat.mul_zero]
  | b :: t, [], _ => by rw [cnt_nil, cnt_nil]; rfl
  | b :: t, a :: w, h => by
    obtain ⟨h1, h2⟩ := List.nodup_cons.mp h
    rw [twice, cnt_c, cnt_c, cnt_twice t (a :: w) h, cnt_c]
    by_cases e : a = b
    · subst e
      simp only [if_true]
      have z : cnt w (a :: twice t) = cnt w (twice t) := by
        cases w with
        | nil => rw [cnt_nil, cnt_nil]
        | cons x w =>
          rw [cnt_c, if_neg (fun e : x = a => h1 (by rw [e]; exact List.mem_cons_self)), Nat.add_zero]
      rw [z, cnt_twice t w h2, List.length_cons, Nat.pow_succ, Nat.mul_add]
      generalize cnt w t = q
      generalize 2 ^ w.length = r
      have : r * 2 * q = r * q + r * q := by
        rw [Nat.mul_comm r 2, Nat.mul_assoc]
        omega
      omega
    · simp [e]
/-! ### the row of a count's loop -/
def row (w p : List Nat) : List Int := (List.range (w.length + 1)).map fun j => ((cnt (w.take j) p : Nat) : Int)
theorem row_len (w p : List Nat) : (row w p).length = w.length + 1 := by simp [row]
theorem row_at (w p : List Nat) (j : Nat) (h : j ≤ w.length) : (row w p)[j]? = some ((cnt (w.take j) p : Nat) : Int) := by
  unfold row
  rw [List.getElem?_map, List.getElem?_range (by omega)]
  rfl
theorem row_nil (w : List Nat) : row w [] = 1 :: List.replicate w.length 0 := by
  unfold row
  rw [List.range_succ_eq_map, List.map_cons, List.map_map]
  congr 1
  · apply List.ext_getElem
    · simp
    · intro i h1 h2
      simp only [List.length_map, List.length_range] at h1
      simp only [List.getElem_map, List.getElem_range, List.getElem_replicate, Function.comp]
      rw [cnt_empty _ (by
        cases w with
        | nil => simp at h1
        | cons a w => simp)]
      rfl
/-- behind i turns of the inner loop -/
def mid (w p : List Nat) (c i : Nat) : List Int := (List.range (w.length + 1)).map fun j => if w.length - i < j then ((cnt (w.take j) (p ++ [c]) : Nat) : Int) else ((cnt (w.take j) p : Nat) : Int)
theorem mid_len (w p : List Nat) (c i : Nat) : (mid w p c i).length = w.length + 1 := by simp [mid]
theorem mid_at (w p : List Nat) (c i j : Nat) (h : j ≤ w.length) : (mid w p c i)[j]? = some (if w.length - i < j then ((cnt (w.take j) (p ++ [c]) : Nat) : Int) else ((cnt (w.take j) p : Nat) : Int)) := by
  unfold mid
  rw [List.getElem?_map, List.getElem?_range (by omega)]
  rfl
theorem mid_zero (w p : List Nat) (c : Nat) : mid w p c 0 = row w p := by
  unfold mid row
  apply List.map_congr_left
  intro j hj
  have := List.mem_range.mp hj
  rw [if_neg (by omega)]
theorem mid_all (w p : List Nat) (c : Nat) : mid w p c w.length = row w (p ++ [c]) := by
  unfold mid row
  apply List.map_congr_left
  intro j hj
  by_cases h : j = 0
  · subst h
    simp [cnt_nil]
  · rw [if_pos (by omega)]
theorem take_snoc (w : List Nat) (j : Nat) (h : j < w.length) : w.take (j + 1) = w.take j ++ [w[j]] := by
  rw [List.take_add_one, List.getElem?_eq_getElem h]
  rfl
/-- a turn: at the place k from the end -/
theorem mid_turn (w p : List Nat) (c i : Nat) (h : i < w.length) : mid w p c (i + 1) =
    if w[w.length - 1 - i]? = some c then (mid w p c i).set (w.length - i) (((cnt (w.take (w.length - i)) p : Nat) : Int) + ((cnt (w.take (w.length - 1 - i)) p : Nat) : Int)) else mid w p c i := by
  have hk : w.length - 1 - i < w.length := by omega
  have e1 : w.length - i = w.length - 1 - i + 1 := by omega
  have step : cnt (w.take (w.length - i)) (p ++ [c]) = cnt (w.take (w.length - i)) p + if w[w.length - 1 - i] = c then cnt (w.take (w.length - 1 - i)) p else 0 := by
    rw [e1, take_snoc w _ hk, cnt_snoc]
  apply List.ext_getElem?
  intro j
  by_cases hj : j ≤ w.length
  · rw [mid_at _ _ _ _ _ hj]
    rw [List.getElem?_eq_getElem hk]
    by_cases hc : w[w.length - 1 - i] = c
    · rw [if_pos (congrArg some hc)]
      rw [if_pos hc] at step
      by_cases hjj : j = w.length - i
      · subst hjj
        rw [List.getElem?_set_self (by rw [mid_len]; omega), if_pos (by omega), step, Int.natCast_add]
      · rw [List.getElem?_set_ne (by omega), mid_at _ _ _ _ _ hj]
        by_cases q : w.length - i < j
        · rw [if_pos q, if_pos (by omega)]
        · rw [if_neg q, if_neg (by omega)]
    · rw [if_neg (fun z => hc (Option.some.inj z)), mid_at _ _ _ _ _ hj]
      rw [if_neg hc] at step
      by_cases hjj : j = w.length - i
      · subst hjj
        rw [if_pos (by omega), if_neg (by omega), step, Nat.add_zero]
      · by_cases q : w.length - i < j
        · rw [if_pos q, if_pos (by omega)]
        · rw [if_neg q, if_neg (by omega)]
  · have z1 : (mid w p c (i + 1))[j]? = none := List.getElem?_eq_none_iff.mpr (by rw [mid_len]; omega)
    rw [z1]
    symm
    split
    · exact List.getElem?_eq_none_iff.mpr (by rw [List.length_set, mid_len]; omega)
    · exact List.getElem?_eq_none_iff.mpr (by rw [mid_len]; omega)
end Mx
namespace Mx
theorem cnt_le : ∀ (t w : List Nat), cnt w t ≤ 2 ^ t.length
  | [], [] => by decide
  | [], _ :: _ => Nat.zero_le _
  | b :: t, [] => by
    rw [cnt_nil]
    exact Nat.one_le_two_pow
  | b :: t, a :: w => by
    rw [cnt_c, List.length_cons, Nat.pow_succ]
    have h1 := cnt_le t (a :: w)
    have h2 := cnt_le t w
    split <;> omega
theorem twice_flat : ∀ t : List Nat, (t.map fun c => [c, c]).flatten = twice t
  | [] => rfl
  | c :: t => by
    rw [List.map_cons, List.flatten_cons, twice_flat t]
    rfl
end Mx
set_option Elab.async false
set_option linter.all false
set_option maxRecDepth 100000
set_option maxHeartbeats 4000000
namespace K05
open PySem PySem.Spec PyProof.Rows L2 Evl Bx
def topS (i : Nat) : Stmt := PySem.Challenge.pw_skipcounts_k05_whole_counts_of_joined_te.main.body.getD i (.Pass ⟨0, 0, 0, 0⟩)
abbrev s_is_text : Stmt := topS 13
abbrev N_is_text : List Str := ["value"]
theorem sc_is_text : FnScope N_is_text ["value"] (defScope s_is_text) := ⟨rfl, rfl, rfl, by decide +kernel, rfl, by decide +kernel, by decide +kernel⟩
abbrev s_is_alphabet : Stmt := topS 14
abbrev N_is_alphabet : List Str := ["value"]
theorem sc_is_alphabet : FnScope N_is_alphabet ["value"] (defScope s_is_alphabet) := ⟨rfl, rfl, rfl, by decide +kernel, rfl, by decide +kernel, by decide +kernel⟩
abbrev s_need_letters : Stmt := topS 15
abbrev N_need_letters : List Str := ["letters"]
theorem sc_need_letters : FnScope N_need_letters ["letters"] (defScope s_need_letters) := ⟨rfl, rfl, rfl, by decide +kernel, rfl, by decide +kernel, by decide +kernel⟩
abbrev s_need_text : Stmt := topS 16
abbrev N_need_text : List Str := ["text"]
theorem sc_need_text : FnScope N_need_text ["text"] (defScope s_need_text) := ⟨rfl, rfl, rfl, by decide +kernel, rfl, by decide +kernel, by decide +kernel⟩
abbrev s_how_many_words : Stmt := topS 10
abbrev N_how_many_words : List Str := ["many", "depth", "found", "of_size", "_"]
theorem sc_how_many_words : FnScope N_how_many_words ["many", "depth"] (defScope s_how_many_words) := ⟨rfl, rfl, rfl, by decide +kernel, rfl, by decide +kernel, by decide +kernel⟩
abbrev s_row_of_levels : Stmt := topS 19
abbrev N_row_of_levels : List Str := ["levels", "level", "number"]
theorem sc_row_of_levels : FnScope N_row_of_levels ["levels"] (defScope s_row_of_levels) := ⟨rfl, rfl, rfl, by decide +kernel, rfl, by decide +kernel, by decide +kernel⟩
abbrev s_is_whole : Stmt := topS 8
abbrev N_is_whole : List Str := ["value"]
theorem sc_is_whole : FnScope N_is_whole ["value"] (defScope s_is_whole) := ⟨rfl, rfl, rfl, by decide +kernel, rfl, by decide +kernel, by decide +kernel⟩
abbrev s_is_from_to : Stmt := topS 9
abbrev N_is_from_to : List Str := ["value", "low", "high"]
theorem sc_is_from_to : FnScope N_is_from_to ["value", "low", "high"] (defScope s_is_from_to) := ⟨rfl, rfl, rfl, by decide +kernel, rfl, by decide +kernel, by decide +kernel⟩
abbrev s__put_behind : Stmt := topS 21
abbrev N__put_behind : List Str := ["levels", "many", "place", "is_small", "sizes", "size", "longer", "at", "number"]
theorem sc__put_behind : FnScope N__put_behind ["levels", "many", "place", "is_small"] (defScope s__put_behind) := ⟨rfl, rfl, rfl, by decide +kernel, rfl, by decide +kernel, by decide +kernel⟩
abbrev s_levels_of_signs : Stmt := topS 20
abbrev N_levels_of_signs : List Str := ["letters", "depth", "signs", "many", "levels", "_", "sign", "small"]
theorem sc_levels_of_signs : FnScope N_levels_of_signs ["letters", "depth", "signs"] (defScope s_levels_of_signs) := ⟨rfl, rfl, rfl, by decide +kernel, rfl, by decide +kernel, by decide +kernel⟩
abbrev s_counts : Stmt := topS 26
abbrev N_counts : List Str := ["letters", "depth", "text", "many"]
theorem sc_counts : FnScope N_counts ["letters", "depth", "text"] (defScope s_counts) := ⟨rfl, rfl, rfl, by decide +kernel, rfl, by decide +kernel, by decide +kernel⟩
abbrev s__law_hash : Stmt := topS 28
abbrev N__law_hash : List Str := ["_law_seed", "_law_index", "_law_mixed"]
theorem sc__law_hash : FnScope N__law_hash ["_law_seed", "_law_index"] (defScope s__law_hash) := ⟨rfl, rfl, rfl, by decide +kernel, rfl, by decide +kernel, by decide +kernel⟩
abbrev s__law_random : Stmt := topS 29
abbrev N__law_random : List Str := ["_law_generator_here", "_law_bound", "_law_drawn", "_law_turn"]
theorem sc__law_random : FnScope N__law_random ["_law_generator_here", "_law_bound"] (defScope s__law_random) := ⟨rfl, rfl, rfl, by decide +kernel, rfl, by decide +kernel, by decide +kernel⟩
abbrev s__law_alphabet : Stmt := topS 34
abbrev N__law_alphabet : List Str := ["_law_generator_here", "_law_least", "_law_many", "_law_start", "_law_found", "_law_turn"]
theorem sc__law_alphabet : FnScope N__law_alphabet ["_law_generator_here", "_law_least"] (defScope s__law_alphabet) := ⟨rfl, rfl, rfl, by decide +kernel, rfl, by decide +kernel, by decide +kernel⟩
abbrev s__law_text : Stmt := topS 32
abbrev N__law_text : List Str := ["_law_generator_here", "_law_letters", "_law_size", "_law_turn"]
theorem sc__law_text : FnScope N__law_text ["_law_generator_here", "_law_letters", "_law_size"] (defScope s__law_text) := ⟨rfl, rfl, rfl, by decide +kernel, rfl, by decide +kernel, by decide +kernel⟩
abbrev s_need_word : Stmt := topS 17
abbrev N_need_word : List Str := ["word"]
theorem sc_need_word : FnScope N_need_word ["word"] (defScope s_need_word) := ⟨rfl, rfl, rfl, by decide +kernel, rfl, by decide +kernel, by decide +kernel⟩
abbrev s_count : Stmt := topS 25
abbrev N_count : List Str := ["word", "text", "ways", "sign", "at"]
theorem sc_count : FnScope N_count ["word", "text"] (defScope s_count) := ⟨rfl, rfl, rfl, by decide +kernel, rfl, by decide +kernel, by decide +kernel⟩
abbrev s__law_count : Stmt := topS 33
abbrev N__law_count : List Str := ["_law_word", "_law_text_here", "_law_found", "_law_letter", "_law_at"]
theorem sc__law_count : FnScope N__law_count ["_law_word", "_law_text_here"] (defScope s__law_count) := ⟨rfl, rfl, rfl, by decide +kernel, rfl, by decide +kernel, by decide +kernel⟩
abbrev s__law_cut_sum : Stmt := topS 36
abbrev N__law_cut_sum : List Str := ["_law_word", "_law_one", "_law_other", "_law_at"]
theorem sc__law_cut_sum : FnScope N__law_cut_sum ["_law_word", "_law_one", "_law_other"] (defScope s__law_cut_sum) := ⟨rfl, rfl, rfl, by decide +kernel, rfl, by decide +kernel, by decide +kernel⟩
abbrev s__law_grown : Stmt := topS 35
abbrev N__law_grown : List Str := ["_law_number", "_law_times", "_law_found", "_law_turn"]
theorem sc__law_grown : FnScope N__law_grown ["_law_number", "_law_times"] (defScope s__law_grown) := ⟨rfl, rfl, rfl, by decide +kernel, rfl, by decide +kernel, by decide +kernel⟩
abbrev s__law_right : Stmt := topS 37
abbrev N__law_right : List Str := ["_law_generator_here", "_law_letters", "_law_one", "_law_other", "_law_word", "_law_told", "_law_letter", "_law_behind", "_law_ahead", "_law_short"]
theorem sc__law_right : FnScope N__law_right ["_law_generator_here"] (defScope s__law_right) := ⟨rfl, rfl, rfl, by decide +kernel, rfl, by decide +kernel, by decide +kernel⟩
abbrev s__law_cell : Stmt := topS 30
abbrev N__law_cell : List Str := ["_law_script", "_law_index"]
theorem sc__law_cell : FnScope N__law_cell ["_law_script", "_law_index"] (defScope s__law_cell) := ⟨rfl, rfl, rfl, by decide +kernel, rfl, by decide +kernel, by decide +kernel⟩
abbrev s__law_generator : Stmt := topS 31
abbrev N__law_generator : List Str := ["_law_script", "_law_index", "_law_seed"]
theorem sc__law_generator : FnScope N__law_generator ["_law_script", "_law_index"] (defScope s__law_generator) := ⟨rfl, rfl, rfl, by decide +kernel, rfl, by decide +kernel, by decide +kernel⟩
abbrev s_law : Stmt := topS 38
abbrev N_law : List Str := ["_law_script", "_law_index"]
theorem sc_law : FnScope N_law ["_law_script"] (defScope s_law) := ⟨rfl, rfl, rfl, by decide +kernel, rfl, by decide +kernel, by decide +kernel⟩
structure Tx (K : PySem.W.Frag) (mg : Str → Option Value) where
  a_is_text : Addr
  fd_is_text : FuncData
  F_is_text : Fun K "is_text" "is_text" s_is_text a_is_text fd_is_text
  g_is_text : mg "is_text" = some (.ref a_is_text)
  a_is_alphabet : Addr
  fd_is_alphabet : FuncData
  F_is_alphabet : Fun K "is_alphabet" "is_alphabet" s_is_alphabet a_is_alphabet fd_is_alphabet
  g_is_alphabet : mg "is_alphabet" = some (.ref a_is_alphabet)
  a_need_letters : Addr
  fd_need_letters : FuncData
  F_need_letters : Fun K "need_letters" "need_letters" s_need_letters a_need_letters fd_need_letters
  g_need_letters : mg "need_letters" = some (.ref a_need_letters)
  a_need_text : Addr
  fd_need_text : FuncData
  F_need_text : Fun K "need_text" "need_text" s_need_text a_need_text fd_need_text
  g_need_text : mg "need_text" = some (.ref a_need_text)
  a_how_many_words : Addr
  fd_how_many_words : FuncData
  F_how_many_words : Fun K "how_many_words" "how_many_words" s_how_many_words a_how_many_words fd_how_many_words
  g_how_many_words : mg "how_many_words" = some (.ref a_how_many_words)
  a_row_of_levels : Addr
  fd_row_of_levels : FuncData
  F_row_of_levels : Fun K "row_of_levels" "row_of_levels" s_row_of_levels a_row_of_levels fd_row_of_levels
  g_row_of_levels : mg "row_of_levels" = some (.ref a_row_of_levels)
  a_is_whole : Addr
  fd_is_whole : FuncData
  F_is_whole : Fun K "is_whole" "is_whole" s_is_whole a_is_whole fd_is_whole
  g_is_whole : mg "is_whole" = some (.ref a_is_whole)
  a_is_from_to : Addr
  fd_is_from_to : FuncData
  F_is_from_to : Fun K "is_from_to" "is_from_to" s_is_from_to a_is_from_to fd_is_from_to
  g_is_from_to : mg "is_from_to" = some (.ref a_is_from_to)
  a__put_behind : Addr
  fd__put_behind : FuncData
  F__put_behind : Fun K "_put_behind" "_put_behind" s__put_behind a__put_behind fd__put_behind
  g__put_behind : mg "_put_behind" = some (.ref a__put_behind)
  a_levels_of_signs : Addr
  fd_levels_of_signs : FuncData
  F_levels_of_signs : Fun K "levels_of_signs" "levels_of_signs" s_levels_of_signs a_levels_of_signs fd_levels_of_signs
  g_levels_of_signs : mg "levels_of_signs" = some (.ref a_levels_of_signs)
  a_counts : Addr
  fd_counts : FuncData
  F_counts : Fun K "counts" "counts" s_counts a_counts fd_counts
  g_counts : mg "counts" = some (.ref a_counts)
  a__law_hash : Addr
  fd__law_hash : FuncData
  F__law_hash : Fun K "_law_hash" "_law_hash" s__law_hash a__law_hash fd__law_hash
  g__law_hash : mg "_law_hash" = some (.ref a__law_hash)
  a__law_random : Addr
  fd__law_random : FuncData
  F__law_random : Fun K "_law_random" "_law_random" s__law_random a__law_random fd__law_random
  g__law_random : mg "_law_random" = some (.ref a__law_random)
  a__law_alphabet : Addr
  fd__law_alphabet : FuncData
  F__law_alphabet : Fun K "_law_alphabet" "_law_alphabet" s__law_alphabet a__law_alphabet fd__law_alphabet
  g__law_alphabet : mg "_law_alphabet" = some (.ref a__law_alphabet)
  a__law_text : Addr
  fd__law_text : FuncData
  F__law_text : Fun K "_law_text" "_law_text" s__law_text a__law_text fd__law_text
  g__law_text : mg "_law_text" = some (.ref a__law_text)
  a_need_word : Addr
  fd_need_word : FuncData
  F_need_word : Fun K "need_word" "need_word" s_need_word a_need_word fd_need_word
  g_need_word : mg "need_word" = some (.ref a_need_word)
  a_count : Addr
  fd_count : FuncData
  F_count : Fun K "count" "count" s_count a_count fd_count
  g_count : mg "count" = some (.ref a_count)
  a__law_count : Addr
  fd__law_count : FuncData
  F__law_count : Fun K "_law_count" "_law_count" s__law_count a__law_count fd__law_count
  g__law_count : mg "_law_count" = some (.ref a__law_count)
  a__law_cut_sum : Addr
  fd__law_cut_sum : FuncData
  F__law_cut_sum : Fun K "_law_cut_sum" "_law_cut_sum" s__law_cut_sum a__law_cut_sum fd__law_cut_sum
  g__law_cut_sum : mg "_law_cut_sum" = some (.ref a__law_cut_sum)
  a__law_grown : Addr
  fd__law_grown : FuncData
  F__law_grown : Fun K "_law_grown" "_law_grown" s__law_grown a__law_grown fd__law_grown
  g__law_grown : mg "_law_grown" = some (.ref a__law_grown)
  a__law_right : Addr
  fd__law_right : FuncData
  F__law_right : Fun K "_law_right" "_law_right" s__law_right a__law_right fd__law_right
  g__law_right : mg "_law_right" = some (.ref a__law_right)
  a__law_cell : Addr
  fd__law_cell : FuncData
  F__law_cell : Fun K "_law_cell" "_law_cell" s__law_cell a__law_cell fd__law_cell
  g__law_cell : mg "_law_cell" = some (.ref a__law_cell)
  a__law_generator : Addr
  fd__law_generator : FuncData
  F__law_generator : Fun K "_law_generator" "_law_generator" s__law_generator a__law_generator fd__law_generator
  g__law_generator : mg "_law_generator" = some (.ref a__law_generator)
  a_law : Addr
  fd_law : FuncData
  F_law : Fun K "law" "law" s_law a_law fd_law
  g_law : mg "law" = some (.ref a_law)
  n_isinstance : mg "isinstance" = none
  n_str : mg "str" = none
  n_list : mg "list" = none
  n_sorted : mg "sorted" = none
  n_set : mg "set" = none
  n_len : mg "len" = none
  n_range : mg "range" = none
  n_int : mg "int" = none
  n_bool : mg "bool" = none
  n_enumerate : mg "enumerate" = none
  n_reversed : mg "reversed" = none
  n_sum : mg "sum" = none
  n_max : mg "max" = none
  k_MOST_IN_ALPHABET : Tok
  c_MOST_IN_ALPHABET : mg "MOST_IN_ALPHABET" = some (.int 4 k_MOST_IN_ALPHABET)
  k_MOST_WORDS : Tok
  c_MOST_WORDS : mg "MOST_WORDS" = some (.int 400 k_MOST_WORDS)
  k_MOST_DEPTH : Tok
  c_MOST_DEPTH : mg "MOST_DEPTH" = some (.int 12 k_MOST_DEPTH)
section
variable {K : PySem.W.Frag} {mg : Str → Option Value}
theorem b_is_text (T : Tx K mg) : Binds K T.fd_is_text ["value"] [] := T.F_is_text.binds fun _ _ _ _ _ _ us hl => match us, hl with | [_], _ => rfl
theorem b_is_alphabet (T : Tx K mg) : Binds K T.fd_is_alphabet ["value"] [] := T.F_is_alphabet.binds fun _ _ _ _ _ _ us hl => match us, hl with | [_], _ => rfl
theorem b_need_letters (T : Tx K mg) : Binds K T.fd_need_letters ["letters"] [] := T.F_need_letters.binds fun _ _ _ _ _ _ us hl => match us, hl with | [_], _ => rfl
theorem b_need_text (T : Tx K mg) : Binds K T.fd_need_text ["text"] [] := T.F_need_text.binds fun _ _ _ _ _ _ us hl => match us, hl with | [_], _ => rfl
theorem b_how_many_words (T : Tx K mg) : Binds K T.fd_how_many_words ["many", "depth"] [] := T.F_how_many_words.binds fun _ _ _ _ _ _ us hl => match us, hl with | [_, _], _ => rfl
theorem b_row_of_levels (T : Tx K mg) : Binds K T.fd_row_of_levels ["levels"] [] := T.F_row_of_levels.binds fun _ _ _ _ _ _ us hl => match us, hl with | [_], _ => rfl
theorem b_is_whole (T : Tx K mg) : Binds K T.fd_is_whole ["value"] [] := T.F_is_whole.binds fun _ _ _ _ _ _ us hl => match us, hl with | [_], _ => rfl
theorem b_is_from_to (T : Tx K mg) : Binds K T.fd_is_from_to ["value", "low", "high"] [] := T.F_is_from_to.binds fun _ _ _ _ _ _ us hl => match us, hl with | [_, _, _], _ => rfl
theorem b__put_behind (T : Tx K mg) : Binds K T.fd__put_behind ["levels", "many", "place", "is_small"] [] := T.F__put_behind.binds fun _ _ _ _ _ _ us hl => match us, hl with | [_, _, _, _], _ => rfl
theorem b_levels_of_signs (T : Tx K mg) : Binds K T.fd_levels_of_signs ["letters", "depth", "signs"] [] := T.F_levels_of_signs.binds fun _ _ _ _ _ _ us hl => match us, hl with | [_, _, _], _ => rfl
theorem b_counts (T : Tx K mg) : Binds K T.fd_counts ["letters", "depth", "text"] [] := T.F_counts.binds fun _ _ _ _ _ _ us hl => match us, hl with | [_, _, _], _ => rfl
theorem b__law_hash (T : Tx K mg) : Binds K T.fd__law_hash ["_law_seed", "_law_index"] [] := T.F__law_hash.binds fun _ _ _ _ _ _ us hl => match us, hl with | [_, _], _ => rfl
theorem b__law_random (T : Tx K mg) : Binds K T.fd__law_random ["_law_generator_here", "_law_bound"] [] := T.F__law_random.binds fun _ _ _ _ _ _ us hl => match us, hl with | [_, _], _ => rfl
theorem b__law_alphabet (T : Tx K mg) : Binds K T.fd__law_alphabet ["_law_generator_here", "_law_least"] [] := T.F__law_alphabet.binds fun _ _ _ _ _ _ us hl => match us, hl with | [_, _], _ => rfl
theorem b__law_text (T : Tx K mg) : Binds K T.fd__law_text ["_law_generator_here", "_law_letters", "_law_size"] [] := T.F__law_text.binds fun _ _ _ _ _ _ us hl => match us, hl with | [_, _, _], _ => rfl
theorem b_need_word (T : Tx K mg) : Binds K T.fd_need_word ["word"] [] := T.F_need_word.binds fun _ _ _ _ _ _ us hl => match us, hl with | [_], _ => rfl
theorem b_count (T : Tx K mg) : Binds K T.fd_count ["word", "text"] [] := T.F_count.binds fun _ _ _ _ _ _ us hl => match us, hl with | [_, _], _ => rfl
theorem b__law_count (T : Tx K mg) : Binds K T.fd__law_count ["_law_word", "_law_text_here"] [] := T.F__law_count.binds fun _ _ _ _ _ _ us hl => match us, hl with | [_, _], _ => rfl
theorem b__law_cut_sum (T : Tx K mg) : Binds K T.fd__law_cut_sum ["_law_word", "_law_one", "_law_other"] [] := T.F__law_cut_sum.binds fun _ _ _ _ _ _ us hl => match us, hl with | [_, _, _], _ => rfl
theorem b__law_grown (T : Tx K mg) : Binds K T.fd__law_grown ["_law_number", "_law_times"] [] := T.F__law_grown.binds fun _ _ _ _ _ _ us hl => match us, hl with | [_, _], _ => rfl
theorem b__law_right (T : Tx K mg) : Binds K T.fd__law_right ["_law_generator_here"] [] := T.F__law_right.binds fun _ _ _ _ _ _ us hl => match us, hl with | [_], _ => rfl
theorem b__law_cell (T : Tx K mg) : Binds K T.fd__law_cell ["_law_script", "_law_index"] [] := T.F__law_cell.binds fun _ _ _ _ _ _ us hl => match us, hl with | [_, _], _ => rfl
theorem b__law_generator (T : Tx K mg) : Binds K T.fd__law_generator ["_law_script", "_law_index"] [] := T.F__law_generator.binds fun _ _ _ _ _ _ us hl => match us, hl with | [_, _], _ => rfl
theorem b_law (T : Tx K mg) : Binds K T.fd_law ["_law_script"] [] := T.F_law.binds fun _ _ _ _ _ _ us hl => match us, hl with | [_], _ => rfl
end
end K05
set_option Elab.async false
set_option linter.all false
set_option maxRecDepth 100000
set_option maxHeartbeats 4000000
namespace K05
open PySem PySem.Spec PyProof.Rows L2 Evl Bx
section
variable {P : Program} {w : World} {K : PySem.W.Frag} {mg : Str → Option Value} {base : Heap}
/-! ### texts -/
def sp_is_text (K : PySem.W.Frag) : Sp := fun vs H Q _ => ∃ l, vs = [tx l] ∧ Low l ∧ Q (.bl true) H
theorem ok_is_text (T : Tx K mg) : FnOk P w K mg base CX0 1 T.a_is_text T.fd_is_text ["value"] (sp_is_text K) := by
  refine T.F_is_text.ok sc_is_text (fun vs H Q E h => ?_) (fun cdv A outer s H vs Q E hr h => ?_)
  · obtain ⟨l, rfl, _⟩ := h
    rfl
  · obtain ⟨l, rfl, hl, q⟩ := h
    refine ⟨_, (pss_cons (ps_if (pt_not (pt_val (pe_callB call_isi (by rfl) T.n_isinstance (by decide +kernel) (pa_cons (pv 0) (pa_cons (pe_bltn (v := .ty "str") (u := .type "str") (by rfl) T.n_str (by decide +kernel) rfl) pa_nil))))) (pss_one (ps_ret pe_bl)) pss_nil) (pss_one (ps_ret (pe_or (pe_cmpR op_eq (pv 0) pe_str (nomark _)) (pe_one (pe_and (pe_m0 PySem.F.slot_str_isascii PySem.F.type_str_isascii mt_isascii (pv 0)) (pe_and (pe_m0 PySem.F.slot_str_isalpha PySem.F.type_str_isalpha mt_isalpha (pv 0)) (pe_one (pe_m0 PySem.F.slot_str_islower PySem.F.type_str_islower mt_islower (pv 0)))))))))), ?_⟩
    refine ⟨_, rfl, _, _, .type "str", _, true, rfl, .ty _, .base (.str _), kit_ty (by decide +kernel), true, rfl, iteF ?_⟩
    refine ⟨_, rfl, rfl, _, rfl, ?_⟩
    by_cases n : l = []
    · subst n
      rw [if_pos (by rfl)]
      exact q
    · have ne : decide (tx l = V.str (PySem.Str.ofString "")) = false := decide_eq_false fun z => n ((tx_inj (l := l) (m := [])).mp (z.trans (by rfl)))
      rw [ne]
      refine iteF ?_
      have a1 := low_ascii hl
      have a2 := low_alpha hl n
      have a3 := low_lower hl n
      refine ⟨_, rfl, ⟨_, rfl⟩, _, rfl, rfl, trivial, _, rfl, ?_⟩
      rw [a1]
      refine iteT ⟨_, rfl, ⟨_, rfl⟩, _, rfl, rfl, trivial, _, rfl, ?_⟩
      rw [a2]
      refine iteT ⟨_, rfl, ⟨_, rfl⟩, _, rfl, rfl, trivial, ?_⟩
      rw [a3]
      exact q
def sp_need (K : PySem.W.Frag) : Sp := fun vs H Q _ => ∃ l, vs = [tx l] ∧ Low l ∧ Q .non H
theorem ok_need_text (T : Tx K mg) : FnOk P w K mg base CX0 2 T.a_need_text T.fd_need_text ["text"] (sp_need K) := by
  refine T.F_need_text.ok sc_need_text (fun vs H Q E h => ?_) (fun cdv A outer s H vs Q E hr h => ?_)
  · obtain ⟨l, rfl, _⟩ := h
    rfl
  · obtain ⟨l, rfl, hl, q⟩ := h
    refine ⟨_, (pss_one (ps_if (pt_not (pt_val (pe_call (ok_is_text T) (hr.mono (by decide)) (by rfl) T.g_is_text T.F_is_text.kp (b_is_text T) .nil pass0 (pa_cons (pv 0) pa_nil)))) (pss_one ps_never) pss_nil)), ?_⟩
    exact ⟨_, rfl, l, rfl, hl, true, rfl, iteF q⟩
theorem ok_need_word (T : Tx K mg) : FnOk P w K mg base CX0 2 T.a_need_word T.fd_need_word ["word"] (sp_need K) := by
  refine T.F_need_word.ok sc_need_word (fun vs H Q E h => ?_) (fun cdv A outer s H vs Q E hr h => ?_)
  · obtain ⟨l, rfl, _⟩ := h
    rfl
  · obtain ⟨l, rfl, hl, q⟩ := h
    refine ⟨_, (pss_one (ps_if (pt_not (pt_val (pe_call (ok_is_text T) (hr.mono (by decide)) (by rfl) T.g_is_text T.F_is_text.kp (b_is_text T) .nil pass0 (pa_cons (pv 0) pa_nil)))) (pss_one ps_never) pss_nil)), ?_⟩
    exact ⟨_, rfl, l, rfl, hl, true, rfl, iteF q⟩
/-! ### count -/
def sp_count (K : PySem.W.Frag) : Sp := fun vs H Q _ => ∃ u t, vs = [tx u, tx t] ∧ Low u ∧ Low t ∧ u.length ≤ 1000 ∧ t.length ≤ 1000 ∧ ∀ H', Ex H H' → Q (.int ((Mx.cnt u t : Nat) : Int)) H'
/-- what stands at the loop's list -/
def At (H : Hp) (p : Addr) (H' : Hp) (ns : List Int) : Prop := Ex H H' ∧ H p = none ∧ H' p = some (.lst (ns.map V.int))
theorem ok_count (T : Tx K mg) : FnOk P w K mg base CX0 3 T.a_count T.fd_count ["word", "text"] (sp_count K) := by
  refine T.F_count.ok sc_count (fun vs H Q E h => ?_) (fun cdv A outer s H vs Q E hr h => ?_)
  · obtain ⟨u, t, rfl, _⟩ := h
    rfl
  · obtain ⟨u, t, rfl, hu, ht, lu, lt, q⟩ := h
    refine ⟨_, (pss_cons (ps_expr (pe_call (ok_need_word T) (hr.mono (by decide)) (by rfl) T.g_need_word T.F_need_word.kp (b_need_word T) .nil pass0 (pa_cons (pv 0) pa_nil))) (pss_cons (ps_expr (pe_call (ok_need_text T) (hr.mono (by decide)) (by rfl) T.g_need_text T.F_need_text.kp (b_need_text T) .nil pass0 (pa_cons (pv 1) pa_nil))) (pss_cons (ps_set (i := 2) sc_count.nd rfl (by first | exact Or.inl rfl | exact Or.inr rfl) (pe_op op_cat (pe_lst (pa_cons pe_int pa_nil)) (pe_op op_rep (pe_lst (pa_cons pe_int pa_nil)) (pe_callB call_len_str (by rfl) T.n_len (by decide +kernel) (pa_cons (pv 0) pa_nil))))) (pss_cons (ps_for PassesOwn.never rfl (pi_str (pv 1)) (pg_name (i := 3) sc_count.nd rfl (by first | exact Or.inl rfl | exact Or.inr rfl)) (pss_one (ps_for PassesOwn.never rfl (pi_revR (by rfl) T.n_reversed (prg_1 (by rfl) T.n_range (pe_callB call_len_str (by rfl) T.n_len (by decide +kernel) (pa_cons (pv 0) pa_nil)))) (pg_name (i := 4) sc_count.nd rfl (by first | exact Or.inl rfl | exact Or.inr rfl)) (pss_one (ps_if (pt_cmpR op_eq (pe_ix ix_str (pv 0) (pv 4) (fun _ _ => rfl)) (pv 3) (nomark _)) (pss_one (ps_asg (pe_op op_add (pe_ix ix_list (pv 2) (pe_op op_add (pv 4) pe_int) (fun _ _ => rfl)) (pe_ix ix_list (pv 2) (pv 4) (fun _ _ => rfl))) (pg_sub (pv 2) (pe_op op_add (pv 4) pe_int) set_list))) pss_nil))))) (pss_one (ps_ret (pe_ix ix_list (pv 2) (pe_un un_neg pe_int) (fun _ _ => rfl)))))))), ?_⟩
    refine ⟨_, rfl, u, rfl, hu, _, rfl, t, rfl, ht, ?_⟩
    -- ways = [1] + [0] * len(word)
    refine ⟨by show 1 ≤ sizeLine; decide, fun p1 n1 => ?_⟩
    refine ⟨by show 1 ≤ sizeLine; decide, fun p2 n2 => ?_⟩
    have d12 : p2 ≠ p1 := fun e => by rw [e, upd_same] at n2; cases n2
    refine ⟨_, rfl, mk u, rfl, by rw [mk_len]; exact sz_of (by omega), _, _, _, rfl, rfl, upd_same, by rw [mk_len]; omega, by rw [mk_len]; omega, by rw [mk_len]; exact sz_of (by simp; omega), fun p3 n3 => ?_⟩
    have d31 : p3 ≠ p1 := fun e => by rw [e, upd_ne d12.symm, upd_same] at n3; cases n3
    have hz : (List.replicate ((mk u).length : Int).toNat [V.int 0]).flatten = List.replicate u.length (V.int 0) := by
      rw [mk_len, Int.toNat_natCast]
      generalize u.length = k
      induction k with
      | zero => rfl
      | succ k ih => rw [List.replicate_succ, List.flatten_cons, ih, List.replicate_succ]; rfl
    rw [hz]
    refine ⟨p1, p3, _, _, rfl, rfl, by rw [upd_ne d31.symm, upd_ne d12.symm, upd_same], upd_same, by simp; exact sz_of (by omega), fun p n => ?_⟩
    have e0 : [V.int 1] ++ List.replicate u.length (V.int 0) = (Mx.row u []).map V.int := by
      rw [Mx.row_nil]
      simp
    rw [e0]
    have at0 : At H p (upd (upd (upd (upd H p1 (.lst [V.int 1])) p2 (.lst [V.int 0])) p3 (.lst (List.replicate u.length (V.int 0)))) p (.lst ((Mx.row u []).map V.int))) (Mx.row u []) := by
      have x1 : Ex H (upd H p1 (.lst [V.int 1])) := Ex.new n1
      have x2 := x1.trans (Ex.new n2 (o := .lst [V.int 0]))
      have x3 := x2.trans (Ex.new n3 (o := .lst (List.replicate u.length (V.int 0))))
      exact ⟨x3.trans (Ex.new n), fresh_back x3 n, upd_same⟩
    generalize (upd (upd (upd (upd H p1 (.lst [V.int 1])) p2 (.lst [V.int 0])) p3 (.lst (List.replicate u.length (V.int 0)))) p (.lst ((Mx.row u []).map V.int))) = H0 at at0 ⊢
    -- for sign in text
    refine forS (l := t) (ev_var rfl) (fun i σ' H' => ∃ y3 y4, σ' = [some (tx u), some (tx t), some (.ref p), y3, y4] ∧ At H p H' (Mx.row u (t.take i))) (fun H1 e1 => ⟨_, _, rfl, at0.1.trans e1, at0.2.1, e1 _ _ at0.2.2⟩) (fun i c σ' H' hc hp => ?_) (fun σ' H' hp => ?_)
    · obtain ⟨y3, y4, rfl, a1, a2, a3⟩ := hp
      have hi : i < t.length := (List.getElem?_eq_some_iff.mp hc).1
      -- for at in reversed(range(len(word)))
      refine forRv (n := (u.length : Int)) (fun H1 e1 Q' q' => ⟨_, rfl, mk u, rfl, by rw [mk_len]; exact sz_of (by omega), by rw [mk_len]; exact q' H1 (Ex.refl _)⟩) (by omega)
        (fun k σ' H' => ∃ y4, σ' = [some (tx u), some (tx t), some (.ref p), some (tx [c]), y4] ∧ At H p H' (Mx.mid u (t.take i) c k)) (fun H1 e1 => ⟨_, rfl, a1.trans e1, a2, by rw [Mx.mid_zero]; exact e1 _ _ a3⟩) (fun k σ' H' hk hp => ?_) (fun σ' H' hp => ?_)
      · obtain ⟨y4, rfl, b1, b2, b3⟩ := hp
        have hku : k < u.length := by omega
        have hj : u.length - 1 - k < u.length := by omega
        have ej : (u.length : Int) - 1 - k = ((u.length - 1 - k : Nat) : Int) := by omega
        rw [ej]
        refine ⟨_, rfl, _, rfl, mk u, _, u[u.length - 1 - k], rfl, rfl, by rw [mk_len]; exact sz_of (by omega), atI_nat (by rw [mk_list]; exact List.getElem?_eq_getElem hj), _, rfl, rfl, _, rfl, ?_⟩
        have turn := Mx.mid_turn u (t.take i) c k hku
        rw [List.getElem?_eq_getElem hj] at turn
        refine ite2 (fun h => ?_) (fun h => ?_)
        · have h1 : u[u.length - 1 - k] = c := by
            have := (tx_inj (l := [u[u.length - 1 - k]]) (m := [c])).mp (of_decide_eq_true h)
            simpa using this
          rw [if_pos (congrArg some h1)] at turn
          have g1 : atI ((Mx.mid u (t.take i) c k).map V.int) (((u.length - 1 - k : Nat) : Int) + 1) = some (.int ((Mx.cnt (u.take (u.length - k)) (t.take i) : Nat) : Int)) := by
            have e : ((u.length - 1 - k : Nat) : Int) + 1 = ((u.length - k : Nat) : Int) := by omega
            rw [e]
            refine atI_nat ?_
            rw [List.getElem?_map, Mx.mid_at _ _ _ _ _ (by omega), if_neg (by omega)]
            rfl
          have g2 : atI ((Mx.mid u (t.take i) c k).map V.int) ((u.length - 1 - k : Nat) : Int) = some (.int ((Mx.cnt (u.take (u.length - 1 - k)) (t.take i) : Nat) : Int)) := by
            refine atI_nat ?_
            rw [List.getElem?_map, Mx.mid_at _ _ _ _ _ (by omega), if_neg (by omega)]
            rfl
          refine ⟨_, rfl, _, rfl, _, 1, rfl, rfl, p, _, _, _, rfl, rfl, .inl (.inl b3), g1, _, rfl, _, rfl, p, _, _, _, rfl, rfl, .inl (.inl b3), g2, _, _, rfl, rfl, ?_⟩
          refine ⟨_, rfl, _, rfl, _, 1, rfl, rfl, p, _, _, u.length - k, rfl, rfl, b3, ?_, ?_⟩
          · have e : ((u.length - 1 - k : Nat) : Int) + 1 = ((u.length - k : Nat) : Int) := by omega
            rw [e]
            exact ixN_nat (by rw [List.length_map, Mx.mid_len]; omega)
          · refine ⟨_, rfl, Ex.mut b1 b2, b2, ?_⟩
            rw [upd_same, turn, List.map_set]
        · have h1 : ¬ u[u.length - 1 - k] = c := fun z => h (decide_eq_true (by rw [z]))
          rw [if_neg (fun z => h1 (Option.some.inj z))] at turn
          exact ⟨_, rfl, b1, b2, by rw [turn]; exact b3⟩
      · obtain ⟨y4, rfl, b1, b2, b3⟩ := hp
        refine ⟨_, _, rfl, b1, b2, ?_⟩
        have e : t.take (i + 1) = t.take i ++ [c] := by
          rw [List.take_add_one, hc]
          rfl
        rw [e, ← Mx.mid_all]
        have e2 : ((u.length : Int)).toNat = u.length := Int.toNat_natCast _
        rw [e2] at b3
        exact b3
    · obtain ⟨y3, y4, rfl, a1, a2, a3⟩ := hp
      rw [List.take_of_length_le (Nat.le_refl _)] at a3
      -- return ways[-1]
      refine ⟨_, rfl, 1, rfl, p, _, _, _, rfl, rfl, .inl (.inl a3), ?_, q _ a1⟩
      have hlen : ((Mx.row u t).map V.int).length = u.length + 1 := by rw [List.length_map, Mx.row_len]
      unfold atI ixN
      rw [if_neg (by decide), hlen, if_pos (by omega)]
      have e : ((-1 : Int) + ((u.length + 1 : Nat) : Int)).toNat = u.length := by omega
      rw [e]
      show ((Mx.row u t).map V.int)[u.length]? = _
      rw [List.getElem?_map, Mx.row_at _ _ _ (Nat.le_refl _), List.take_of_length_le (Nat.le_refl _)]
      rfl
end
end K05
set_option linter.all false
/-! Lx: all words over some letters, in order, and the rows of their counts -/
namespace Lx
open Mx
/-- all words of n letters over L, in order -/
def wd (L : List Nat) : Nat → List (List Nat)
  | 0 => [[]]
  | n + 1 => (wd L n).flatMap fun u => L.map fun a => u ++ [a]
theorem wd_len (L : List Nat) : ∀ n, (wd L n).length = L.length ^ n
  | 0 => rfl
  | n + 1 => by
    rw [wd, List.length_flatMap]
    have e : (wd L n).map (fun u => (L.map fun a => u ++ [a]).length) = (wd L n).map fun _ => L.length := by
      apply List.map_congr_left
      intro u _
      rw [List.length_map]
    rw [e, List.map_const', List.sum_replicate_nat, wd_len L n, Nat.pow_succ]
theorem flat_at {α β : Type} (f : α → List β) (m : Nat) (hf : ∀ a, (f a).length = m) : ∀ (l : List α) (i j : Nat), j < m → (l.flatMap f)[i * m + j]? = (l[i]?).bind fun a => (f a)[j]?
  | [], i, j, h => by simp
  | x :: l, 0, j, h => by
    rw [List.flatMap_cons, Nat.zero_mul, Nat.zero_add, List.getElem?_append_left (by rw [hf]; exact h)]
    rfl
  | x :: l, i + 1, j, h => by
    rw [List.flatMap_cons, List.getElem?_append_right (by rw [hf, Nat.add_mul]; omega), hf]
    have e : (i + 1) * m + j - m = i * m + j := by rw [Nat.add_mul]; omega
    rw [e, flat_at f m hf l i j h]
    rfl
/-- the word at a place: the one without its last letter, and this letter -/
theorem wd_at (L : List Nat) (n i j : Nat) (h : j < L.length) : (wd L (n + 1))[i * L.length + j]? = ((wd L n)[i]?).bind fun u => (L[j]?).map fun a => u ++ [a] := by
  rw [wd, flat_at _ L.length (fun a => by rw [List.length_map]) _ _ _ h]
  congr 1
  funext u
  rw [List.getElem?_map]
theorem wd_size (L : List Nat) : ∀ (n : Nat), ∀ u ∈ wd L n, u.length = n
  | 0, u, h => by
    rw [wd, List.mem_singleton] at h
    rw [h]
    rfl
  | n + 1, u, h => by
    rw [wd, List.mem_flatMap] at h
    obtain ⟨v, hv, hu⟩ := h
    obtain ⟨a, _, rfl⟩ := List.mem_map.mp hu
    rw [List.length_append, wd_size L n v hv]
    rfl
/-- the level n of the counts in p -/
def lev (L : List Nat) (n : Nat) (p : List Nat) : List Int := (wd L n).map fun u => ((cnt u p : Nat) : Int)
theorem lev_len (L : List Nat) (n : Nat) (p : List Nat) : (lev L n p).length = L.length ^ n := by rw [lev, List.length_map, wd_len]
theorem lev_zero (L p : List Nat) : lev L 0 p = [1] := by simp [lev, wd, cnt_nil]
theorem lev_empty (L : List Nat) (n : Nat) : lev L (n + 1) [] = List.replicate (L.length ^ (n + 1)) 0 := by
  apply List.ext_getElem
  · rw [lev_len, List.length_replicate]
  · intro i h1 h2
    rw [lev_len] at h1
    rw [List.getElem_replicate]
    simp only [lev, List.getElem_map]
    have hm : (wd L (n + 1))[i]'(by rw [wd_len]; exact h1) ∈ wd L (n + 1) := List.getElem_mem _
    rw [cnt_empty _ (fun e => by
      have := wd_size L (n + 1) _ hm
      rw [e] at this
      simp at this)]
    rfl
/-- the level n + 1 behind i numbers of the level n, for the letter at the place k -/
def part (L : List Nat) (n : Nat) (p : List Nat) (c i k : Nat) : List Int := (List.range (L.length ^ (n + 1))).map fun j =>
  if j / L.length < i then ((cnt ((wd L (n + 1)).getD j []) (p ++ [c]) : Nat) : Int) else ((cnt ((wd L (n + 1)).getD j []) p : Nat) : Int)
theorem part_len (L : List Nat) (n : Nat) (p : List Nat) (c i k : Nat) : (part L n p c i k).length = L.length ^ (n + 1) := by simp [part]
theorem lev_range (L : List Nat) (n : Nat) (p : List Nat) : lev L n p = (List.range (L.length ^ n)).map fun j => ((cnt ((wd L n).getD j []) p : Nat) : Int) := by
  apply List.ext_getElem
  · rw [lev_len, List.length_map, List.length_range]
  · intro i h1 h2
    rw [lev_len] at h1
    have hw : i < (wd L n).length := by rw [wd_len]; exact h1
    simp only [lev, List.getElem_map, List.getElem_range]
    rw [List.getD_eq_getElem?_getD, List.getElem?_eq_getElem hw]
    rfl
theorem part_zero (L : List Nat) (n : Nat) (p : List Nat) (c k : Nat) : part L n p c 0 k = lev L (n + 1) p := by
  rw [lev_range, part]
  apply List.map_congr_left
  intro j _
  rw [if_neg (Nat.not_lt_zero _)]
theorem part_all (L : List Nat) (n : Nat) (p : List Nat) (c k : Nat) : part L n p c (L.length ^ n) k = lev L (n + 1) (p ++ [c]) := by
  rw [lev_range, part]
  apply List.map_congr_left
  intro j hj
  have := List.mem_range.mp hj
  rw [if_pos (Nat.div_lt_of_lt_mul (by rw [Nat.mul_comm, ← Nat.pow_succ]; exact this))]
theorem part_at (L : List Nat) (n : Nat) (p : List Nat) (c i k j : Nat) (h : j < L.length ^ (n + 1)) : (part L n p c i k)[j]? =
    some (if j / L.length < i then ((cnt ((wd L (n + 1)).getD j []) (p ++ [c]) : Nat) : Int) else ((cnt ((wd L (n + 1)).getD j []) p : Nat) : Int)) := by
  unfold part
  rw [List.getElem?_map, List.getElem?_range h]
  rfl
theorem wd_get (L : List Nat) (n i j : Nat) (hi : i < L.length ^ n) (hj : j < L.length) : (wd L (n + 1)).getD (i * L.length + j) [] = (wd L n).getD i [] ++ [L.getD j 0] := by
  have hw : i < (wd L n).length := by rw [wd_len]; exact hi
  rw [List.getD_eq_getElem?_getD, wd_at L n i j hj, List.getElem?_eq_getElem hw, List.getElem?_eq_getElem hj, List.getD_eq_getElem?_getD, List.getElem?_eq_getElem hw, List.getD_eq_getElem?_getD, List.getElem?_eq_getElem hj]
  rfl
theorem slot_lt (L : List Nat) (n i k : Nat) (hi : i < L.length ^ n) (hk : k < L.length) : i * L.length + k < L.length ^ (n + 1) := by
  rw [Nat.pow_succ]
  calc i * L.length + k < i * L.length + L.length := by omega
    _ = (i + 1) * L.length := by rw [Nat.add_mul, Nat.one_mul]
    _ ≤ L.length ^ n * L.length := Nat.mul_le_mul_right _ hi
theorem slot_old (L : List Nat) (n : Nat) (p : List Nat) (c i k : Nat) (hi : i < L.length ^ n) (hk : k < L.length) :
    (part L n p c i k)[i * L.length + k]? = some ((cnt ((wd L n).getD i [] ++ [L.getD k 0]) p : Nat) : Int) := by
  rw [part_at _ _ _ _ _ _ _ (slot_lt L n i k hi hk), wd_get L n i k hi hk]
  have e : (i * L.length + k) / L.length = i := by
    rw [Nat.mul_comm, Nat.mul_add_div (by omega), Nat.div_eq_of_lt hk, Nat.add_zero]
  rw [e, if_neg (Nat.lt_irrefl _)]
theorem part_turn (L : List Nat) (nd : L.Nodup) (n : Nat) (p : List Nat) (c i k : Nat) (hi : i < L.length ^ n) (hk : k < L.length) (hc : L.getD k 0 = c) :
    part L n p c (i + 1) k = (part L n p c i k).set (i * L.length + k) (((cnt ((wd L n).getD i [] ++ [L.getD k 0]) p : Nat) : Int) + ((cnt ((wd L n).getD i []) p : Nat) : Int)) := by
  have sl := slot_lt L n i k hi hk
  apply List.ext_getElem?
  intro j
  by_cases hj : j < L.length ^ (n + 1)
  · rw [part_at _ _ _ _ _ _ _ hj]
    have hL : 0 < L.length := by omega
    have dm := Nat.div_add_mod j L.length
    have ml := Nat.mod_lt j hL
    have jd : j / L.length < L.length ^ n := Nat.div_lt_of_lt_mul (by rw [Nat.mul_comm, ← Nat.pow_succ]; exact hj)
    have ej : j = (j / L.length) * L.length + j % L.length := by rw [Nat.mul_comm]; exact dm.symm
    have wj : (wd L (n + 1)).getD j [] = (wd L n).getD (j / L.length) [] ++ [L.getD (j % L.length) 0] := by
      have q := wd_get L n (j / L.length) (j % L.length) jd ml
      rw [← ej] at q
      exact q
    by_cases q : j = i * L.length + k
    · subst q
      rw [List.getElem?_set_self (by rw [part_len]; exact hj)]
      have e : (i * L.length + k) / L.length = i := by
        rw [Nat.mul_comm, Nat.mul_add_div (by omega), Nat.div_eq_of_lt hk, Nat.add_zero]
      rw [if_pos (by rw [e]; omega), wd_get L n i k hi hk, cnt_snoc, if_pos hc, Int.natCast_add]
    · rw [List.getElem?_set_ne (fun z => q z.symm), part_at _ _ _ _ _ _ _ hj]
      by_cases a : j / L.length < i
      · rw [if_pos (by omega), if_pos a]
      · rw [if_neg a]
        by_cases b : j / L.length < i + 1
        · have eq : j / L.length = i := by omega
          have nk : j % L.length ≠ k := fun z => q (by rw [ej, eq, z])
          rw [if_pos b, wj, cnt_snoc, if_neg, Nat.add_zero]
          intro z
          rw [← hc] at z
          apply nk
          have h1 : L[j % L.length]? = L[k]? := by
            rw [List.getD_eq_getElem?_getD, List.getD_eq_getElem?_getD, List.getElem?_eq_getElem ml, List.getElem?_eq_getElem hk] at z
            rw [List.getElem?_eq_getElem ml, List.getElem?_eq_getElem hk]
            exact congrArg some z
          exact (List.getElem?_inj ml nd).mp h1
        · rw [if_neg b]
  · have z1 : (part L n p c (i + 1) k)[j]? = none := List.getElem?_eq_none_iff.mpr (by rw [part_len]; omega)
    rw [z1]
    symm
    exact List.getElem?_eq_none_iff.mpr (by rw [List.length_set, part_len]; omega)
/-- a sign that L has not changes no level -/
theorem cnt_other (p u : List Nat) (c : Nat) (h : c ∉ u) : cnt u (p ++ [c]) = cnt u p := by
  rcases List.eq_nil_or_concat u with rfl | ⟨v, a, rfl⟩
  · rw [cnt_nil, cnt_nil]
  · rw [List.concat_eq_append] at h ⊢
    rw [cnt_snoc, if_neg (fun e => h (by rw [e]; exact List.mem_append_right _ (List.mem_singleton.mpr rfl))), Nat.add_zero]
theorem wd_over (L : List Nat) : ∀ n, ∀ u ∈ wd L n, ∀ a ∈ u, a ∈ L
  | 0, u, h, a, ha => by
    rw [wd, List.mem_singleton] at h
    rw [h] at ha
    exact absurd ha (by simp)
  | n + 1, u, h, a, ha => by
    rw [wd, List.mem_flatMap] at h
    obtain ⟨v, hv, hu⟩ := h
    obtain ⟨b, hb, rfl⟩ := List.mem_map.mp hu
    rcases List.mem_append.mp ha with z | z
    · exact wd_over L n v hv a z
    · rw [List.mem_singleton] at z
      rw [z]
      exact hb
theorem lev_other (L : List Nat) (n : Nat) (p : List Nat) (c : Nat) (h : c ∉ L) : lev L n (p ++ [c]) = lev L n p := by
  unfold lev
  apply List.map_congr_left
  intro u hu
  rw [cnt_other p u c fun z => h (wd_over L n u hu c z)]
/-- all words up to d letters, in the order of texts -/
def upto (L : List Nat) : Nat → List (List Nat)
  | 0 => wd L 0
  | d + 1 => upto L d ++ wd L (d + 1)
def rows (L : List Nat) (d : Nat) (p : List Nat) : List (List Int) := (List.range (d + 1)).map fun n => lev L n p
theorem rows_flat (L : List Nat) (p : List Nat) : ∀ d, (rows L d p).flatten = (upto L d).map fun u => ((cnt u p : Nat) : Int)
  | 0 => by simp [rows, upto, lev]
  | d + 1 => by
    have ih := rows_flat L p d
    unfold rows at ih ⊢
    rw [List.range_succ, List.map_append, List.flatten_append, ih, upto, List.map_append]
    simp [lev]
end Lx
set_option Elab.async false
set_option linter.all false
set_option maxRecDepth 100000
set_option maxHeartbeats 4000000
namespace K05
open PySem PySem.Spec PyProof.Rows L2 Evl Bx
section
variable {P : Program} {w : World} {K : PySem.W.Frag} {mg : Str → Option Value} {base : Heap}
/-! ### whole numbers -/
def sp_is_whole (K : PySem.W.Frag) : Sp := fun vs H Q _ => ∃ i : Int, vs = [.int i] ∧ Q (.bl true) H
theorem ok_is_whole (T : Tx K mg) : FnOk P w K mg base CX0 1 T.a_is_whole T.fd_is_whole ["value"] (sp_is_whole K) := by
  refine T.F_is_whole.ok sc_is_whole (fun vs H Q E h => ?_) (fun cdv A outer s H vs Q E hr h => ?_)
  · obtain ⟨l, rfl, _⟩ := h
    rfl
  · obtain ⟨i, rfl, q⟩ := h
    refine ⟨_, (pss_one (ps_ret (pe_and (pe_callB call_isi (by rfl) T.n_isinstance (by decide +kernel) (pa_cons (pv 0) (pa_cons (pe_bltn (v := .ty "int") (u := .type "int") (by rfl) T.n_int (by decide +kernel) rfl) pa_nil))) (pe_one (pe_not (pe_callB call_isi (by rfl) T.n_isinstance (by decide +kernel) (pa_cons (pv 0) (pa_cons (pe_bltn (v := .ty "bool") (u := .type "bool") (by rfl) T.n_bool (by decide +kernel) rfl) pa_nil)))))))), ?_⟩
    refine ⟨_, rfl, _, _, .type "int", _, true, rfl, .ty _, .base (.int _), kit_ty (by decide +kernel), true, rfl, iteT ?_⟩
    exact ⟨_, rfl, _, _, .type "int", _, false, rfl, .ty _, .base (.int _), kit_ty (by decide +kernel), false, rfl, q⟩
def sp_is_from_to (K : PySem.W.Frag) : Sp := fun vs H Q _ => ∃ i a b : Int, vs = [.int i, .int a, .int b] ∧ a ≤ i ∧ i ≤ b ∧ Q (.bl true) H
theorem ok_is_from_to (T : Tx K mg) : FnOk P w K mg base CX0 2 T.a_is_from_to T.fd_is_from_to ["value", "low", "high"] (sp_is_from_to K) := by
  refine T.F_is_from_to.ok sc_is_from_to (fun vs H Q E h => ?_) (fun cdv A outer s H vs Q E hr h => ?_)
  · obtain ⟨_, _, _, rfl, _⟩ := h
    rfl
  · obtain ⟨i, a, b, rfl, h1, h2, q⟩ := h
    refine ⟨_, (pss_one (ps_ret (pe_and (pe_call (ok_is_whole T) (hr.mono (by decide)) (by rfl) T.g_is_whole T.F_is_whole.kp (b_is_whole T) .nil pass0 (pa_cons (pv 0) pa_nil)) (pe_one (pe_chain op_le op_le (pv 1) (pv 0) (pv 2)))))), ?_⟩
    refine ⟨_, rfl, i, rfl, true, rfl, iteT ?_⟩
    refine ⟨_, rfl, _, rfl, a, i, rfl, rfl, _, rfl, ?_⟩
    rw [decide_eq_true h1]
    refine iteT ⟨_, rfl, i, b, rfl, rfl, ?_⟩
    show Q (.bl (decide (i ≤ b))) H
    rw [decide_eq_true h2]
    exact q
def hm (m d : Nat) : Nat := ((List.range (d + 1)).map fun k => m ^ k).sum
theorem hm_part (m i : Nat) : ((List.range (i + 1)).map fun k => m ^ k).sum = ((List.range i).map fun k => m ^ k).sum + m ^ i := by
  rw [List.range_succ, List.map_append, List.sum_append]
  simp
def sp_how_many_words (K : PySem.W.Frag) : Sp := fun vs H Q _ => ∃ m d : Nat, vs = [.int (m : Int), .int (d : Int)] ∧ m ≤ 26 ∧ d ≤ 100 ∧ Q (.int (hm m d : Nat)) H
theorem pow_lt (m i : Nat) (h : m ≤ 26) (hi : i ≤ 1000) : m ^ i < 2 ^ 9000 := by
  calc m ^ i ≤ 32 ^ i := Nat.pow_le_pow_left (by omega) i
    _ = 2 ^ (5 * i) := by rw [Nat.pow_mul]
    _ < 2 ^ 9000 := Nat.pow_lt_pow_right (by decide) (by omega)
theorem ok_how_many_words (T : Tx K mg) : FnOk P w K mg base CX0 1 T.a_how_many_words T.fd_how_many_words ["many", "depth"] (sp_how_many_words K) := by
  refine T.F_how_many_words.ok sc_how_many_words (fun vs H Q E h => ?_) (fun cdv A outer s H vs Q E hr h => ?_)
  · obtain ⟨_, _, rfl, _⟩ := h
    rfl
  · obtain ⟨m, d, rfl, h1, h2, q⟩ := h
    refine ⟨_, (pss_cons (ps_set (i := 2) sc_how_many_words.nd rfl (by first | exact Or.inl rfl | exact Or.inr rfl) pe_int) (pss_cons (ps_set (i := 3) sc_how_many_words.nd rfl (by first | exact Or.inl rfl | exact Or.inr rfl) pe_int) (pss_cons (ps_for PassesOwn.never rfl (pi_range1 (by rfl) T.n_range (pa_cons (pe_op op_add (pv 1) pe_int) pa_nil)) (pg_name (i := 4) sc_how_many_words.nd rfl (by first | exact Or.inl rfl | exact Or.inr rfl)) (pss_cons (ps_set (i := 2) sc_how_many_words.nd rfl (by first | exact Or.inl rfl | exact Or.inr rfl) (pe_op op_add (pv 2) (pv 3))) (pss_one (ps_set (i := 3) sc_how_many_words.nd rfl (by first | exact Or.inl rfl | exact Or.inr rfl) (pe_op op_mulW (pv 3) (pv 0)))))) (pss_one (ps_ret (pv 2)))))), ?_⟩
    refine ⟨_, rfl, _, _, rfl, rfl, (d : Int) + 1, rfl, by omega, by omega, for_range (lo := 0) (n := ((d : Int) + 1).toNat) (fun i σ H2 => ∃ y, σ = [some (.int (m : Int)), some (.int (d : Int)), some (.int (((List.range i).map fun k => m ^ k).sum : Nat)), some (.int ((m ^ i : Nat) : Int)), y] ∧ H2 = H) ⟨none, rfl, rfl⟩ (fun i σ H2 hi hp => ?_) (fun σ H2 hp => ?_)⟩
    · obtain ⟨y, rfl, rfl⟩ := hp
      refine ⟨_, rfl, _, rfl, _, _, rfl, rfl, _, rfl, _, rfl, _, _, rfl, rfl, mul_ok (abs_nat (pow_lt m i h1 (by omega))) (abs_nat (small_pow (by omega))), ?_⟩
      refine ⟨some (.int (0 + (i : Int))), ?_, rfl⟩
      rw [hm_part, Int.natCast_add, Nat.pow_succ, Int.natCast_mul]
      rfl
    · obtain ⟨y, rfl, rfl⟩ := hp
      refine ⟨_, rfl, ?_⟩
      have e : ((d : Int) + 1).toNat = d + 1 := by omega
      rw [e]
      exact q
/-! ### alphabets -/
def sp_is_alphabet (K : PySem.W.Frag) : Sp := fun vs H Q _ => ∃ L, vs = [tx L] ∧ Alph L ∧ ∀ H', Ex H H' → Q (.bl true) H'
theorem ok_is_alphabet (T : Tx K mg) : FnOk P w K mg base CX0 2 T.a_is_alphabet T.fd_is_alphabet ["value"] (sp_is_alphabet K) := by
  refine T.F_is_alphabet.ok sc_is_alphabet (fun vs H Q E h => ?_) (fun cdv A outer s H vs Q E hr h => ?_)
  · obtain ⟨_, rfl, _⟩ := h
    rfl
  · obtain ⟨L, rfl, hL, q⟩ := h
    refine ⟨_, (pss_cons (ps_if (PW.pt (pw_or (pt_not (pt_val (pe_call (ok_is_text T) (hr.mono (by decide)) (by rfl) T.g_is_text T.F_is_text.kp (b_is_text T) .nil pass0 (pa_cons (pv 0) pa_nil)))) (pw_or1 (pt_not (pt_chain op_le op_le pe_int (pe_callB call_len_str (by rfl) T.n_len (by decide +kernel) (pa_cons (pv 0) pa_nil)) (pe_glob (v := .int 4) (by rfl) T.c_MOST_IN_ALPHABET ⟨_, rfl⟩)))))) (pss_one (ps_ret pe_bl)) pss_nil) (pss_one (ps_ret (pe_cmpR (op_eqD hr.units) (pe_callTy (Rx.cr_listS rfl) (by rfl) T.n_list (by decide +kernel) (pa_cons (pv 0) pa_nil)) (pe_callB (Sx.cr_sortT rfl) (by rfl) T.n_sorted (by decide +kernel) (pa_cons (pe_callTy (Sx.cr_setS rfl) (by rfl) T.n_set (by decide +kernel) (pa_cons (pv 0) pa_nil)) pa_nil)) (nomark _))))), ?_⟩
    have h1 := hL.one
    have h4 := hL.four
    refine ⟨_, rfl, L, rfl, hL.low, true, rfl, iteF ?_⟩
    refine ⟨_, rfl, mk L, rfl, by rw [mk_len]; exact sz_of (by omega), 1, _, rfl, rfl, true, ?_, iteT ?_⟩
    · rw [mk_len]
      exact congrArg V.bl (decide_eq_true (by omega))
    refine ⟨_, _, rfl, rfl, true, ?_, iteF ?_⟩
    · rw [mk_len]
      exact congrArg V.bl (decide_eq_true (by omega))
    -- list(value) == sorted(set(value))
    refine ⟨_, rfl, mk L, rfl, by show L.toArray.size ≤ _; simp; omega, fun p1 n1 => ?_⟩
    refine ⟨_, rfl, mk L, rfl, hL.low.asc, by show L.toArray.size ≤ _; simp; omega, fun p2 n2 => ?_⟩
    have nd := signs_nodup (lt_nodup hL.up)
    have eu : Sx.uniq [] (Sx.sgs (mk L)) = L.map fun c => mk [c] := by
      rw [sgs_mk]
      exact uniq_id _ [] nd
    refine ⟨p2, L.map fun c => mk [c], rfl, by rw [upd_same, eu], nd, by rw [List.length_map]; omega, fun ns p3 hp hs n3 => ?_⟩
    have en := sorted_one hp hs (signs_sorted hL.up)
    subst en
    rw [sgs_mk]
    have x1 : Ex H (upd H p1 (.lst ((L.map fun c => mk [c]).map V.str))) := Ex.new n1
    have x2 := Ex.new n2 (o := Sx.SetT P w p2 (Sx.uniq [] (Sx.sgs (mk L))))
    have x3 := Ex.new n3 (o := .lst ((L.map fun c => mk [c]).map V.str))
    have g1 := x3 _ _ (x2 _ _ (upd_same (H := H) (a := p1) (o := .lst ((L.map fun c => mk [c]).map V.str))))
    refine ⟨.list ((L.map fun c => mk [c]).map .str), .list ((L.map fun c => mk [c]).map .str), .lst (.inl (.inl g1)) (dpAll_strs _), .lst (.inl (.inl upd_same)) (dpAll_strs _), ?_, ?_, ?_⟩
    · refine shaped_strs _ fun z hz => ?_
      obtain ⟨c, hc, rfl⟩ := List.mem_map.mp hz
      intro d hd
      rw [mk_list, List.mem_singleton] at hd
      rw [hd]
      exact hL.low c hc
    · refine shaped_strs _ fun z hz => ?_
      obtain ⟨c, hc, rfl⟩ := List.mem_map.mp hz
      intro d hd
      rw [mk_list, List.mem_singleton] at hd
      rw [hd]
      exact hL.low c hc
    · show Q (.bl (PyData.eqvAll _ _)) _
      rw [eqvAll_strs, decide_eq_true rfl]
      exact q _ (x1.trans (x2.trans x3))
def sp_need_letters (K : PySem.W.Frag) : Sp := fun vs H Q _ => ∃ L, vs = [tx L] ∧ Alph L ∧ ∀ H', Ex H H' → Q .non H'
theorem ok_need_letters (T : Tx K mg) : FnOk P w K mg base CX0 3 T.a_need_letters T.fd_need_letters ["letters"] (sp_need_letters K) := by
  refine T.F_need_letters.ok sc_need_letters (fun vs H Q E h => ?_) (fun cdv A outer s H vs Q E hr h => ?_)
  · obtain ⟨l, rfl, _⟩ := h
    rfl
  · obtain ⟨l, rfl, hl, q⟩ := h
    refine ⟨_, (pss_one (ps_if (pt_not (pt_val (pe_call (ok_is_alphabet T) (hr.mono (by decide)) (by rfl) T.g_is_alphabet T.F_is_alphabet.kp (b_is_alphabet T) .nil pass0 (pa_cons (pv 0) pa_nil)))) (pss_one ps_never) pss_nil)), ?_⟩
    exact ⟨_, rfl, l, rfl, hl, fun H' e => ⟨true, rfl, iteF (q H' e)⟩⟩
end
end K05
set_option Elab.async false
set_option linter.all false
set_option maxRecDepth 100000
set_option maxHeartbeats 4000000
namespace K05
open PySem PySem.Spec PyProof.Rows L2 Evl Bx
section
variable {P : Program} {w : World} {K : PySem.W.Frag} {mg : Str → Option Value} {base : Heap}
/-! ### levels -/
/-- a list of lists of whole numbers -/
structure LvAt (H : Hp) (p : Addr) (qs : List Addr) (rows : List (List Int)) : Prop where
  top : H p = some (.lst (qs.map V.ref))
  nd : qs.Nodup
  out : p ∉ qs
  len : qs.length = rows.length
  row : ∀ (n : Nat) q r, qs[n]? = some q → rows[n]? = some r → H q = some (.lst (r.map V.int))
/-- all but some objects as before -/
def Fr (qs : List Addr) (H H' : Hp) : Prop := ∀ a o, a ∉ qs → H a = some o → H' a = some o
theorem Fr.trans {qs : List Addr} {H H1 H2 : Hp} (a : Fr qs H H1) (b : Fr qs H1 H2) : Fr qs H H2 := fun x o n h => b x o n (a x o n h)
theorem Fr.new {qs : List Addr} {H H1 : Hp} {p : Addr} {o : HO} (a : Fr qs H H1) (n : H1 p = none) : Fr qs H (upd H1 p o) := fun x u nx h => by
  rw [upd_ne (ne_of_none (a x u nx h) n)]
  exact a x u nx h
theorem Fr.set {qs : List Addr} {H H1 : Hp} {p : Addr} {o : HO} (a : Fr qs H H1) (n : p ∈ qs) : Fr qs H (upd H1 p o) := fun x u nx h => by
  rw [upd_ne (fun e => nx (by rw [e]; exact n))]
  exact a x u nx h
theorem LvAt.new {H : Hp} {p : Addr} {qs : List Addr} {rows : List (List Int)} {z : Addr} {o : HO} (a : LvAt H p qs rows) (n : H z = none) : LvAt (upd H z o) p qs rows :=
  ⟨by rw [upd_ne (ne_of_none a.top n)]; exact a.top, a.nd, a.out, a.len, fun k q r hq hr => by
    have h := a.row k q r hq hr
    rw [upd_ne (ne_of_none h n)]
    exact h⟩
/-- one row stored anew -/
theorem LvAt.put {H : Hp} {p : Addr} {qs : List Addr} {rows : List (List Int)} {k : Nat} {q : Addr} {r : List Int} (a : LvAt H p qs rows) (hq : qs[k]? = some q) : LvAt (upd H q (.lst (r.map V.int))) p qs (rows.set k r) := by
  have hm : q ∈ qs := List.mem_of_getElem? hq
  refine ⟨by rw [upd_ne (fun e : p = q => a.out (by rw [e]; exact hm))]; exact a.top, a.nd, a.out, by rw [List.length_set]; exact a.len, fun n q2 r2 h2 hr2 => ?_⟩
  by_cases e : n = k
  · subst e
    have eq : q2 = q := Option.some.inj (h2.symm.trans hq)
    have hk : n < rows.length := by rw [← a.len]; exact (List.getElem?_eq_some_iff.mp hq).1
    rw [List.getElem?_set_self hk] at hr2
    rw [eq, upd_same, Option.some.inj hr2]
  · have ne : q2 ≠ q := fun z => e (nd_ix a.nd (z ▸ h2) hq)
    rw [List.getElem?_set_ne (fun z => e z.symm)] at hr2
    rw [upd_ne ne]
    exact a.row n q2 r2 h2 hr2
open Lx Mx
/-- rows behind i turns of the outer loop: those behind d - i are new -/
def mixed (L : List Nat) (d : Nat) (p : List Nat) (c i : Nat) : List (List Int) := (List.range (d + 1)).map fun n => if d - i < n then lev L n (p ++ [c]) else lev L n p
theorem mixed_at (L : List Nat) (d : Nat) (p : List Nat) (c i n : Nat) (h : n ≤ d) : (mixed L d p c i)[n]? = some (if d - i < n then lev L n (p ++ [c]) else lev L n p) := by
  unfold mixed
  rw [List.getElem?_map, List.getElem?_range (by omega)]
  rfl
theorem mixed_len (L : List Nat) (d : Nat) (p : List Nat) (c i : Nat) : (mixed L d p c i).length = d + 1 := by simp [mixed]
theorem mixed_zero (L : List Nat) (d : Nat) (p : List Nat) (c : Nat) : mixed L d p c 0 = rows L d p := by
  unfold mixed rows
  apply List.map_congr_left
  intro n hn
  have := List.mem_range.mp hn
  rw [if_neg (by omega)]
theorem mixed_all (L : List Nat) (d : Nat) (p : List Nat) (c : Nat) : mixed L d p c d = rows L d (p ++ [c]) := by
  unfold mixed rows
  apply List.map_congr_left
  intro n hn
  by_cases h : n = 0
  · subst h
    rw [lev_zero, lev_zero]
    simp
  · rw [if_pos (by omega)]
theorem mixed_step (L : List Nat) (d : Nat) (p : List Nat) (c i : Nat) (h : i < d) : mixed L d p c (i + 1) = (mixed L d p c i).set (d - i) (lev L (d - i) (p ++ [c])) := by
  apply List.ext_getElem?
  intro j
  by_cases hj : j ≤ d
  · rw [mixed_at _ _ _ _ _ _ hj]
    by_cases q : j = d - i
    · subst q
      rw [List.getElem?_set_self (by rw [mixed_len]; omega), if_pos (by omega)]
    · rw [List.getElem?_set_ne (fun z => q z.symm), mixed_at _ _ _ _ _ _ hj]
      by_cases a : d - i < j
      · rw [if_pos (by omega), if_pos a]
      · rw [if_neg (by omega), if_neg a]
  · have z : (mixed L d p c (i + 1))[j]? = none := List.getElem?_eq_none_iff.mpr (by rw [mixed_len]; omega)
    rw [z]
    symm
    exact List.getElem?_eq_none_iff.mpr (by rw [List.length_set, mixed_len]; omega)
def sp_put (K : PySem.W.Frag) : Sp := fun vs H Q _ => ∃ p qs L d pre k c, vs = [.ref p, .int (L.length : Int), .int (k : Nat), .bl true] ∧ LvAt H p qs (rows L d pre) ∧ L.Nodup ∧ L.length ≤ 26 ∧ d ≤ 12 ∧ L[k]? = some c ∧ hm L.length d ≤ 100000 ∧
  ∀ H', Fr qs H H' → LvAt H' p qs (rows L d (pre ++ [c])) → Q .non H'
theorem mem_sum : ∀ (l : List Nat) (x : Nat), x ∈ l → x ≤ l.sum
  | [], x, h => by simp at h
  | y :: l, x, h => by
    rw [List.sum_cons]
    rcases List.mem_cons.mp h with e | e
    · omega
    · have := mem_sum l x e
      omega
theorem pow_hm (m d n : Nat) (h : n ≤ d) : m ^ n ≤ hm m d := mem_sum _ _ (List.mem_map.mpr ⟨n, List.mem_range.mpr (by omega), rfl⟩)
theorem ok__put_behind (T : Tx K mg) : FnOk P w K mg base CX0 1 T.a__put_behind T.fd__put_behind ["levels", "many", "place", "is_small"] (sp_put K) := by
  refine T.F__put_behind.ok sc__put_behind (fun vs H Q E h => ?_) (fun cdv A outer s H vs Q E hr h => ?_)
  · obtain ⟨_, _, _, _, _, _, _, rfl, _⟩ := h
    rfl
  · obtain ⟨p, qs, L, d, pre, k, c, rfl, lv, nd, l26, d12, hk, hh, q⟩ := h
    have kL : k < L.length := (List.getElem?_eq_some_iff.mp hk).1
    have lq : qs.length = d + 1 := by
      rw [lv.len]
      simp [rows]
    refine ⟨_, (pss_cons (ps_set (i := 4) sc__put_behind.nd rfl (by first | exact Or.inl rfl | exact Or.inr rfl) (pe_listRg rfl (by rfl) T.n_list (prg_1 (by rfl) T.n_range (pe_op op_sub (pe_callB call_len_seq (by rfl) T.n_len (by decide +kernel) (pa_cons (pv 0) pa_nil)) pe_int)))) (pss_cons (ps_if (pt_val (pv 3)) (pss_one (ps_set (i := 4) sc__put_behind.nd rfl (by first | exact Or.inl rfl | exact Or.inr rfl) (pe_revL (pv 4)))) pss_nil) (pss_one (ps_for PassesOwn.never rfl (pi_list (pv 4)) (pg_name (i := 5) sc__put_behind.nd rfl (by first | exact Or.inl rfl | exact Or.inr rfl)) (pss_cons (ps_set (i := 6) sc__put_behind.nd rfl (by first | exact Or.inl rfl | exact Or.inr rfl) (pe_ix ix_list (pv 0) (pe_op op_add (pv 5) pe_int) (fun _ _ => rfl))) (pss_one (ps_for PassesOwn.never rfl (pi_enum (by rfl) T.n_enumerate (pa_cons (pe_ix ix_list (pv 0) (pv 5) (fun _ _ => rfl)) pa_nil)) (pg_tup (by rfl) (pgs_cons (pg_name (i := 7) sc__put_behind.nd rfl (by first | exact Or.inl rfl | exact Or.inr rfl)) (pgs_cons (pg_name (i := 8) sc__put_behind.nd rfl (by first | exact Or.inl rfl | exact Or.inr rfl)) pgs_nil))) (pss_one (ps_if (pt_val (pv 3)) (pss_one (ps_asg (pe_op op_add (pe_ix ix_list (pv 6) (pe_op op_add (pe_op op_mulW (pv 7) (pv 1)) (pv 2)) (fun _ _ => rfl)) (pv 8)) (pg_sub (pv 6) (pe_op op_add (pe_op op_mulW (pv 7) (pv 1)) (pv 2)) set_list))) (pss_one (ps_asg (pe_op op_sub (pe_ix ix_list (pv 6) (pe_op op_add (pe_op op_mulW (pv 7) (pv 1)) (pv 2)) (fun _ _ => rfl)) (pv 8)) (pg_sub (pv 6) (pe_op op_add (pe_op op_mulW (pv 7) (pv 1)) (pv 2)) set_list)))))))))))), ?_⟩
    -- sizes = list(range(len(levels) - 1))
    refine ⟨_, rfl, p, _, rfl, .inl (.inl (.inl lv.top)), _, 1, rfl, rfl, _, rfl, ?_⟩
    have e1 : ((qs.map V.ref).length : Int) - 1 = (d : Int) := by
      rw [List.length_map, lq]
      omega
    show RgOk 0 (((qs.map V.ref).length : Int) - 1) ∧ _
    rw [e1]
    refine ⟨RgOk.of_le (by omega) (by omega) (by omega) (by omega), fun a na => ?_⟩
    -- if is_small: sizes = sizes[::-1]
    refine ⟨_, rfl, true, rfl, iteT ?_⟩
    refine ⟨_, rfl, a, _, rfl, .inl (.inl upd_same), fun b nb => ?_⟩
    have er : (rgV 0 (d : Int)).reverse = (List.range d).map fun i => V.int ((d - 1 - i : Nat) : Int) := by
      unfold rgV
      have e : ((d : Int) - 0).toNat = d := by omega
      rw [e]
      apply List.ext_getElem
      · simp
      · intro i h1 h2
        simp only [List.length_map, List.length_range] at h2
        simp
    rw [er]
    have lv2 := (lv.new (z := a) (o := .lst (rgV 0 (d : Int))) na).new (z := b) (o := .lst ((List.range d).map fun i => V.int ((d - 1 - i : Nat) : Int))) nb
    have fr0 : Fr qs H H := fun _ _ _ h => h
    have fr2 := (fr0.new (p := a) (o := .lst (rgV 0 (d : Int))) na).new (p := b) (o := .lst ((List.range d).map fun i => V.int ((d - 1 - i : Nat) : Int))) nb
    have hb : upd (upd H a (.lst (rgV 0 (d : Int)))) b (.lst ((List.range d).map fun i => V.int ((d - 1 - i : Nat) : Int))) b = some (.lst ((List.range d).map fun i => V.int ((d - 1 - i : Nat) : Int))) := upd_same
    have bq : b ∉ qs := fun hm => by
      obtain ⟨n, hn, en⟩ := List.getElem_of_mem hm
      have hr2 : n < (rows L d pre).length := by rw [← lv.len]; exact hn
      have := (lv.new (z := a) (o := .lst (rgV 0 (d : Int))) na).row n b _ (by rw [List.getElem?_eq_getElem hn, en]) (List.getElem?_eq_getElem hr2)
      rw [this] at nb
      cases nb
    generalize upd (upd H a (.lst (rgV 0 (d : Int)))) b (.lst ((List.range d).map fun i => V.int ((d - 1 - i : Nat) : Int))) = H0 at lv2 fr2 hb ⊢
    rw [← mixed_zero L d pre c] at lv2
    -- for size in sizes
    refine s_forL (xs := (List.range d).map fun i => V.int ((d - 1 - i : Nat) : Int)) (ev_var rfl) (.inl (.inl hb)) (fun i σ H' => ∃ y5 y6 y7 y8, σ = [some (.ref p), some (.int (L.length : Int)), some (.int (k : Nat)), some (.bl true), some (.ref b), y5, y6, y7, y8] ∧ Fr qs H H' ∧ LvAt H' p qs (mixed L d pre c i) ∧ H' b = some (.lst ((List.range d).map fun i => V.int ((d - 1 - i : Nat) : Int))))
      (fun H1 e1 => ⟨_, _, _, _, rfl, fun x o nx hx => e1 _ _ (fr2 x o nx hx), ⟨e1 _ _ lv2.top, lv2.nd, lv2.out, lv2.len, fun n q r hq hr => e1 _ _ (lv2.row n q r hq hr)⟩, e1 _ _ hb⟩) (fun i σ' H' _ ⟨_, _, _, _, _, _, _, h⟩ => .inl (.inl h)) (fun i x σ' H' hx hp => ?_) (fun σ' H' hp => ?_)
    · obtain ⟨y5, y6, y7, y8, rfl, fr, lw, hb'⟩ := hp
      have hi : i < d := by
        have := (List.getElem?_eq_some_iff.mp hx).1
        simpa using this
      have ex : x = V.int ((d - 1 - i : Nat) : Int) := by
        rw [List.getElem?_map, List.getElem?_range hi] at hx
        exact (Option.some.inj hx).symm
      subst ex
      have hn0 : d - 1 - i < qs.length := by omega
      have hn1 : d - i < qs.length := by omega
      have q0 : qs[d - 1 - i]? = some qs[d - 1 - i] := List.getElem?_eq_getElem hn0
      have q1 : qs[d - i]? = some qs[d - i] := List.getElem?_eq_getElem hn1
      generalize qs[d - 1 - i] = u0 at q0
      generalize qs[d - i] = u1 at q1
      have ne01 : u0 ≠ u1 := fun e => by
        have := nd_ix lw.nd (e ▸ q0) q1
        omega
      have r0 := lw.row _ _ _ q0 (mixed_at L d pre c i (d - 1 - i) (by omega))
      have r1 := lw.row _ _ _ q1 (mixed_at L d pre c i (d - i) (by omega))
      rw [if_neg (by omega)] at r0 r1
      -- longer = levels[size + 1]
      refine ⟨_, rfl, _, rfl, _, 1, rfl, rfl, p, _, _, .ref u1, rfl, rfl, .inl (.inl lw.top), ?_, ?_⟩
      · have e : ((d - 1 - i : Nat) : Int) + 1 = ((d - i : Nat) : Int) := by omega
        rw [e]
        refine atI_nat ?_
        rw [List.getElem?_map, q1]
        rfl
      have u1m : u1 ∈ qs := List.mem_of_getElem? q1
      -- for at, number in enumerate(levels[size])
      refine ⟨_, rfl, _, rfl, p, _, _, .ref u0, rfl, rfl, .inl (.inl lw.top), atI_nat (by rw [List.getElem?_map, q0]; rfl), u0, _, rfl, .inl (.inl r0), ?_⟩
      have e6 : d - i = (d - 1 - i) + 1 := by omega
      refine for_it (walk_enum (xs := (lev L (d - 1 - i) pre).map V.int)) (fun j σ H2 => ∃ y7 y8, σ = [some (.ref p), some (.int (L.length : Int)), some (.int (k : Nat)), some (.bl true), some (.ref b), some (.int ((d - 1 - i : Nat) : Int)), some (.ref u1), y7, y8] ∧
          Fr qs H H2 ∧ LvAt H2 p qs ((mixed L d pre c i).set (d - i) (part L (d - 1 - i) pre c j k)) ∧ H2 b = some (.lst ((List.range d).map fun i => V.int ((d - 1 - i : Nat) : Int)))) ?_ ?_ ?_ ?_
      · refine ⟨_, _, rfl, fr, ?_, hb'⟩
        rw [part_zero, ← e6]
        have es : (mixed L d pre c i).set (d - i) (lev L (d - i) pre) = mixed L d pre c i := by
          apply List.ext_getElem?
          intro j
          by_cases ej : j = d - i
          · subst ej
            rw [List.getElem?_set_self (by rw [mixed_len]; omega), mixed_at _ _ _ _ _ _ (by omega), if_neg (by omega)]
          · rw [List.getElem?_set_ne (fun z => ej z.symm)]
        rw [es]
        exact lw
      · rintro j σ H2 _ ⟨y7, y8, rfl, fr3, l3, hb3⟩
        refine .inl (.inl (l3.row _ _ _ q0 ?_))
        rw [List.getElem?_set_ne (by omega), mixed_at _ _ _ _ _ _ (by omega), if_neg (by omega)]
      · rintro j v σ H2 H3 hj ⟨y7, y8, rfl, fr3, l3, hb3⟩ ⟨Tp, x1, x2, rfl, nT, rfl, f1, f2⟩
        rw [List.length_map, lev_len] at hj
        obtain rfl : V.int (j : Nat) = x1 := Option.some.inj f1
        have hwj : j < (wd L (d - 1 - i)).length := by rw [wd_len]; exact hj
        have ex2 : x2 = .int ((cnt ((wd L (d - 1 - i)).getD j []) pre : Nat) : Int) := by
          dsimp only at f2
          rw [List.getElem?_map, lev, List.getElem?_map, List.getElem?_eq_getElem hwj] at f2
          rw [List.getD_eq_getElem?_getD, List.getElem?_eq_getElem hwj]
          exact (Option.some.inj f2).symm
        subst ex2
        refine ⟨Tp, _, rfl, .inl (.inl upd_same), rfl, _, _, rfl, _, _, rfl, rfl, ?_⟩
        -- if is_small
        refine ⟨_, rfl, true, rfl, iteT ?_⟩
        have l4 := l3.new (z := Tp) (o := .tup [.int (j : Nat), .int ((cnt ((wd L (d - 1 - i)).getD j []) pre : Nat) : Int)]) nT
        have fr4 := fr3.new (p := Tp) (o := .tup [.int (j : Nat), .int ((cnt ((wd L (d - 1 - i)).getD j []) pre : Nat) : Int)]) nT
        have hb4 : upd H2 Tp (.tup [.int (j : Nat), .int ((cnt ((wd L (d - 1 - i)).getD j []) pre : Nat) : Int)]) b = some (.lst ((List.range d).map fun i => V.int ((d - 1 - i : Nat) : Int))) := by
          rw [upd_ne (ne_of_none hb3 nT)]
          exact hb3
        generalize upd H2 Tp (.tup [.int (j : Nat), .int ((cnt ((wd L (d - 1 - i)).getD j []) pre : Nat) : Int)]) = H5 at l4 fr4 hb4 ⊢
        have rr := l4.row _ _ _ q1 (List.getElem?_set_self (by rw [mixed_len]; omega))
        have so := slot_old L (d - 1 - i) pre c j k hj kL
        have jb : j < 2 ^ 64 := by
          have := pow_hm L.length d (d - 1 - i) (by omega)
          omega
        have mo : CMulW ((j : Nat) : Int) (L.length : Int) := mul_ok (abs_nat (small_pow jb)) (abs_nat (small_pow (by omega)))
        have ei : ((j : Nat) : Int) * (L.length : Int) + (k : Nat) = ((j * L.length + k : Nat) : Int) := by
          rw [Int.natCast_add, Int.natCast_mul]
        refine ⟨_, rfl, _, rfl, _, rfl, _, _, rfl, rfl, mo, _, rfl, _, _, rfl, rfl, u1, _, _, .int ((cnt ((wd L (d - 1 - i)).getD j [] ++ [L.getD k 0]) pre : Nat) : Int), rfl, rfl, .inl (.inl rr), ?_, _, rfl, _, _, rfl, rfl, ?_⟩
        · show atI _ (((j : Nat) : Int) * (L.length : Int) + (k : Nat)) = _
          rw [ei]
          refine atI_nat ?_
          rw [List.getElem?_map, so]
          rfl
        refine ⟨_, rfl, _, rfl, _, rfl, _, _, rfl, rfl, mo, _, rfl, _, _, rfl, rfl, u1, _, _, j * L.length + k, rfl, rfl, rr, ?_, ?_⟩
        · show ixN _ (((j : Nat) : Int) * (L.length : Int) + (k : Nat)) = _
          rw [ei]
          refine ixN_nat ?_
          rw [List.length_map, part_len]
          exact slot_lt L (d - 1 - i) j k hj kL
        · refine ⟨_, _, rfl, fr4.set u1m, ?_, ?_⟩
          · have pt := part_turn L nd (d - 1 - i) pre c j k hj kL (by rw [List.getD_eq_getElem?_getD, hk]; rfl)
            rw [pt]
            have := l4.put (r := (part L (d - 1 - i) pre c j k).set (j * L.length + k) (((cnt ((wd L (d - 1 - i)).getD j [] ++ [L.getD k 0]) pre : Nat) : Int) + ((cnt ((wd L (d - 1 - i)).getD j []) pre : Nat) : Int))) q1
            rw [List.set_set] at this
            rw [List.map_set] at this
            exact this
          · rw [upd_ne (fun e : b = u1 => bq (by rw [e]; exact u1m))]
            exact hb4
      · rintro σ H2 ⟨y7, y8, rfl, fr3, l3, hb3⟩
        rw [List.length_map, lev_len, part_all, ← e6, ← mixed_step _ _ _ _ _ hi] at l3
        exact ⟨_, _, _, _, rfl, fr3, l3, hb3⟩
    · obtain ⟨y5, y6, y7, y8, rfl, fr, lw, hb'⟩ := hp
      rw [List.length_map, List.length_range, mixed_all] at lw
      exact q H' fr lw
end
end K05
set_option Elab.async false
set_option linter.all false
set_option maxRecDepth 100000
set_option maxHeartbeats 4000000
namespace Bx
open PySem PySem.Spec PyProof.Rows L2 Evl PySem.StrLaws
theorem occ_full (s sub : Str) (hi : Nat) : ∀ (l : List Nat) (st : Array Nat × Nat), 1 ≤ st.fst.size → (forIn l st (occBody s sub hi 1)).run.fst = st.fst
  | [], st, _ => rfl
  | a :: l, st, h => by
    rw [List.forIn_cons]
    unfold occBody
    rw [if_neg (fun z => by
      have := z.1.1.1
      omega)]
    exact occ_full s sub hi l _ h
theorem occ_hit (s sub : Str) (hi k : Nat) (post : List Nat) (hk : k + sub.length ≤ hi ∧ Builtin.Str.subAt s sub k = true) : ∀ (pre : List Nat) (free : Nat), (∀ i ∈ pre ++ k :: post, free ≤ i) →
    (∀ i ∈ pre, ¬ (i + sub.length ≤ hi ∧ Builtin.Str.subAt s sub i = true)) → (forIn (pre ++ k :: post) ((#[] : Array Nat), free) (occBody s sub hi 1)).run.fst = #[k]
  | [], free, hf, _ => by
    rw [List.nil_append, List.forIn_cons]
    unfold occBody
    rw [if_pos ⟨⟨⟨by simp, hf k (by simp)⟩, hk.1⟩, hk.2⟩]
    exact occ_full s sub hi post _ (by simp)
  | a :: pre, free, hf, hn => by
    rw [List.cons_append, List.forIn_cons]
    unfold occBody
    rw [if_neg (fun z => hn a (by simp) ⟨z.1.2, z.2⟩)]
    exact occ_hit s sub hi k post hk pre free (fun i hi' => hf i (by rw [List.cons_append]; exact List.mem_cons_of_mem _ hi')) fun i hi' => hn i (List.mem_cons_of_mem _ hi')
/-- where a letter stands first -/
theorem index_one {L : List Nat} {c k : Nat} (hk : L[k]? = some c) (hn : ∀ j, j < k → L[j]? ≠ some c) : Builtin.Str.occurrences (mk L) (mk [c]) 0 (mk L).length 1 = [k] := by
  rw [occ_eq]
  have lt : k < L.length := (List.getElem?_eq_some_iff.mp hk).1
  have e : List.range' 0 ((mk L).length + 1 - 0) = List.range' 0 k ++ k :: List.range' (k + 1) (L.length - k) := by
    rw [mk_len, Nat.sub_zero]
    have e1 : L.length + 1 = k + (1 + (L.length - k)) := by omega
    rw [e1, ← List.range'_append_1, Nat.zero_add, Nat.add_comm 1, List.range'_succ]
  rw [e, occ_hit (mk L) (mk [c]) (mk L).length k _ ((subAt_one (mk L) c k).mpr hk) _ 0 (fun _ _ => Nat.zero_le _) fun i hi z => ?_]
  have := (subAt_one (mk L) c i).mp z
  refine hn i ?_ this
  have := List.mem_range'_1.mp hi
  omega
theorem lower_low {l : List Nat} (h : Low l) : Txt.lower (mk l) = mk l := by
  rw [lower_ascii fun c hc => by
    have := h c hc
    omega]
  have e : (mk l).cps.map lo1 = (mk l).cps := by
    apply Array.ext'
    rw [Array.toList_map]
    show l.map lo1 = l
    conv => rhs; rw [← List.map_id l]
    apply List.map_congr_left
    intro c hc
    have := h c hc
    unfold lo1
    rw [if_neg (by omega)]
    rfl
  rw [e]
end Bx
set_option Elab.async false
set_option linter.all false
set_option maxRecDepth 100000
set_option maxHeartbeats 4000000
namespace K05
open PySem PySem.Spec PyProof.Rows L2 Evl Bx
section
variable {P : Program} {w : World} {K : PySem.W.Frag} {mg : Str → Option Value} {base : Heap}
open Lx Mx
/-- one row more -/
theorem LvAt.more {H : Hp} {p : Addr} {qs : List Addr} {rows : List (List Int)} {z : Addr} {r : List Int} (a : LvAt H p qs rows) (n : H z = none) :
    LvAt (upd (upd H z (.lst (r.map V.int))) p (.lst ((qs ++ [z]).map V.ref))) p (qs ++ [z]) (rows ++ [r]) := by
  have zq : z ∉ qs := fun hm => by
    obtain ⟨k, hk, ek⟩ := List.getElem_of_mem hm
    have := a.row k z _ (by rw [List.getElem?_eq_getElem hk, ek]) (List.getElem?_eq_getElem (by rw [← a.len]; exact hk))
    rw [this] at n
    cases n
  have zp : p ≠ z := ne_of_none a.top n
  refine ⟨upd_same, ?_, ?_, ?_, fun k q r2 hq hr => ?_⟩
  · rw [List.nodup_append]
    refine ⟨a.nd, by simp, fun x hx y hy => ?_⟩
    rw [List.mem_singleton] at hy
    rw [hy]
    exact fun e => zq (by rw [← e]; exact hx)
  · intro hm
    rcases List.mem_append.mp hm with e | e
    · exact a.out e
    · rw [List.mem_singleton] at e
      exact zp e
  · rw [List.length_append, List.length_append, a.len]
    rfl
  · by_cases hk : k < qs.length
    · rw [List.getElem?_append_left hk] at hq
      rw [List.getElem?_append_left (by rw [← a.len]; exact hk)] at hr
      have h := a.row k q r2 hq hr
      have qp : q ≠ p := fun e => a.out (by rw [← e]; exact List.mem_of_getElem? hq)
      rw [upd_ne qp, upd_ne (ne_of_none h n)]
      exact h
    · rw [List.getElem?_append_right (by omega)] at hq
      rw [List.getElem?_append_right (by rw [← a.len]; omega)] at hr
      have e0 : k - qs.length = 0 := by
        have := (List.getElem?_eq_some_iff.mp hq).1
        simp at this
        omega
      rw [e0] at hq
      rw [← a.len, e0] at hr
      obtain rfl : z = q := Option.some.inj hq
      obtain rfl : r = r2 := Option.some.inj hr
      rw [upd_ne zp.symm, upd_same]
theorem rows_more (L : List Nat) (i : Nat) (p : List Nat) : rows L (i + 1) p = rows L i p ++ [lev L (i + 1) p] := by
  unfold rows
  rw [List.range_succ, List.map_append]
  rfl
theorem rep_flat (k : Nat) (v : V) : (List.replicate k [v]).flatten = List.replicate k v := by
  induction k with
  | zero => rfl
  | succ k ih => rw [List.replicate_succ, List.flatten_cons, ih, List.replicate_succ]; rfl
def sp_levels (K : PySem.W.Frag) : Sp := fun vs H Q _ => ∃ L d t, vs = [tx L, .int (d : Nat), tx t] ∧ L.Nodup ∧ 1 ≤ L.length ∧ L.length ≤ 26 ∧ d ≤ 12 ∧ hm L.length d ≤ 100000 ∧ Low t ∧ t.length ≤ 1000 ∧
  ∀ H' p qs, Ex H H' → H p = none → LvAt H' p qs (rows L d t) → Q (.ref p) H'
theorem ok_levels_of_signs (T : Tx K mg) : FnOk P w K mg base CX0 2 T.a_levels_of_signs T.fd_levels_of_signs ["letters", "depth", "signs"] (sp_levels K) := by
  refine T.F_levels_of_signs.ok sc_levels_of_signs (fun vs H Q E h => ?_) (fun cdv A outer s H vs Q E hr h => ?_)
  · obtain ⟨_, _, _, rfl, _⟩ := h
    rfl
  · obtain ⟨L, d, t, rfl, nd, l1, l26, d12, hh, ht, tl, q⟩ := h
    refine ⟨_, (pss_cons (ps_set (i := 3) sc_levels_of_signs.nd rfl (by first | exact Or.inl rfl | exact Or.inr rfl) (pe_callB call_len_str (by rfl) T.n_len (by decide +kernel) (pa_cons (pv 0) pa_nil))) (pss_cons (ps_set (i := 4) sc_levels_of_signs.nd rfl (by first | exact Or.inl rfl | exact Or.inr rfl) (pe_lst (pa_cons (pe_lst (pa_cons pe_int pa_nil)) pa_nil))) (pss_cons (ps_for PassesOwn.never rfl (pi_range1 (by rfl) T.n_range (pa_cons (pv 1) pa_nil)) (pg_name (i := 5) sc_levels_of_signs.nd rfl (by first | exact Or.inl rfl | exact Or.inr rfl)) (pss_one (ps_expr (pe_bm PySem.F.plainAttrs_list PySem.F.slot_list_append PySem.F.type_list_append mt_append (pv 4) (pa_cons (pe_op op_rep (pe_lst (pa_cons pe_int pa_nil)) (pe_op op_mulW (pv 3) (pe_callB call_len_seq (by rfl) T.n_len (by decide +kernel) (pa_cons (pe_ix ix_list (pv 4) (pe_un un_neg pe_int) (fun _ _ => rfl)) pa_nil)))) pa_nil))))) (pss_cons (ps_for PassesOwn.never rfl (pi_str (pv 2)) (pg_name (i := 6) sc_levels_of_signs.nd rfl (by first | exact Or.inl rfl | exact Or.inr rfl)) (pss_cons (ps_set (i := 7) sc_levels_of_signs.nd rfl (by first | exact Or.inl rfl | exact Or.inr rfl) (pe_lower (pv 6))) (pss_one (ps_if (pt_cmpR op_in_sign (pv 7) (pv 0) rfl) (pss_one (ps_expr (pe_call (ok__put_behind T) (hr.mono (by decide)) (by rfl) T.g__put_behind T.F__put_behind.kp (b__put_behind T) .nil pass0 (pa_cons (pv 4) (pa_cons (pv 3) (pa_cons (pe_bm PySem.F.plainAttrs_str PySem.F.slot_str_index PySem.F.type_str_index mt_sindex (pv 0) (pa_cons (pv 7) pa_nil)) (pa_cons (pe_cmpR op_eq (pv 6) (pv 7) (nomark _)) pa_nil))))))) pss_nil)))) (pss_one (ps_ret (pv 4))))))), ?_⟩
    -- many = len(letters); levels = [[1]]
    refine ⟨_, rfl, mk L, rfl, by rw [mk_len]; exact sz_of (by omega), ?_⟩
    rw [mk_len]
    refine ⟨by show 1 ≤ sizeLine; decide, fun p1 n1 => ?_⟩
    refine ⟨by show 1 ≤ sizeLine; decide, fun p np => ?_⟩
    have x1 : Ex H (upd H p1 (.lst [V.int 1])) := Ex.new n1
    have lv0 : LvAt (upd (upd H p1 (.lst [V.int 1])) p (.lst [V.ref p1])) p [p1] (rows L 0 []) := by
      have pp : p1 ≠ p := fun e => by rw [← e, upd_same] at np; cases np
      refine ⟨upd_same, by simp, by rw [List.mem_singleton]; exact pp.symm, rfl, fun k q r hq hr => ?_⟩
      have k0 : k = 0 := by
        have := (List.getElem?_eq_some_iff.mp hq).1
        simp at this
        omega
      subst k0
      obtain rfl : p1 = q := Option.some.inj hq
      have er : r = [1] := by
        have : some (lev L 0 []) = some r := hr
        rw [lev_zero] at this
        exact (Option.some.inj this).symm
      rw [er, upd_ne pp, upd_same]
      rfl
    have fp : H p = none := fresh_back x1 np
    have x2 := x1.trans (Ex.new np (o := .lst [V.ref p1]))
    have fq : ∀ q ∈ [p1], H q = none := fun q hq => by
      rw [List.mem_singleton] at hq
      rw [hq]
      exact n1
    generalize upd (upd H p1 (.lst [V.int 1])) p (.lst [V.ref p1]) = H0 at lv0 x2 ⊢
    -- for _ in range(depth)
    refine ⟨_, rfl, (d : Nat), rfl, by omega, by omega, ?_⟩
    rw [Int.toNat_natCast]
    refine for_range (lo := 0) (n := d) (fun i σ H2 => ∃ qs y5 y6 y7, σ = [some (tx L), some (.int (d : Nat)), some (tx t), some (.int (L.length : Int)), some (.ref p), y5, y6, y7] ∧ Ex H H2 ∧ LvAt H2 p qs (rows L i []) ∧ ∀ q ∈ qs, H q = none) ⟨[p1], _, _, _, rfl, x2, lv0, fq⟩ (fun i σ H2 hi hp => ?_) (fun σ H2 hp => ?_)
    · obtain ⟨qs, y5, y6, y7, rfl, e2, lv, fqs⟩ := hp
      have lq : qs.length = i + 1 := by
        rw [lv.len]
        simp [rows]
      have qi : qs[i]? = some qs[i] := List.getElem?_eq_getElem (by omega)
      have ri : (rows L i [])[i]? = some (lev L i []) := by
        unfold rows
        rw [List.getElem?_map, List.getElem?_range (by omega)]
        rfl
      have hrow := lv.row i _ _ qi ri
      refine ⟨_, rfl, .inl ⟨rfl, _, .inl (.inl lv.top)⟩, ?_⟩
      refine ⟨by show 1 ≤ sizeLine; decide, fun z1 nz1 => ?_⟩
      have lv1 := lv.new (z := z1) (o := .lst [V.int 0]) nz1
      have h1 : (upd H2 z1 (.lst [V.int 0])) qs[i] = some (.lst ((lev L i []).map V.int)) := by
        rw [upd_ne (ne_of_none hrow nz1)]
        exact hrow
      have pb : L.length ^ i ≤ 100000 := Nat.le_trans (pow_hm L.length d i (by omega)) hh
      have pb2 : L.length ^ (i + 1) ≤ 100000 := Nat.le_trans (pow_hm L.length d (i + 1) (by omega)) hh
      have em : (L.length : Int) * (((lev L i []).map V.int).length : Int) = ((L.length ^ (i + 1) : Nat) : Int) := by
        rw [List.length_map, lev_len, ← Int.natCast_mul, Nat.pow_succ, Nat.mul_comm]
      refine ⟨_, rfl, _, rfl, 1, rfl, p, _, _, .ref qs[i], rfl, rfl, .inl (.inl lv1.top), ?_, qs[i], _, rfl, .inl (.inl (.inl h1)), _, _, rfl, rfl, ?_, ?_⟩
      · unfold atI ixN
        have hl : (qs.map V.ref).length = i + 1 := by rw [List.length_map, lq]
        rw [if_neg (by decide), hl, if_pos (by omega)]
        have e : ((-1 : Int) + ((i + 1 : Nat) : Int)).toNat = i := by omega
        rw [e]
        show (qs.map V.ref)[i]? = _
        rw [List.getElem?_map, qi]
        rfl
      · rw [List.length_map, lev_len]
        exact mul_ok (abs_nat (small_pow (by omega))) (abs_nat (small_pow (by omega)))
      · show rRep _ (.int ((L.length : Int) * (((lev L i []).map V.int).length : Int))) _ _
        rw [em]
        refine ⟨z1, _, _, rfl, rfl, upd_same, by omega, by omega, ?_, fun z nz => ?_⟩
        · rw [Int.toNat_natCast, List.length_singleton, Nat.one_mul]
          exact sz_of pb2
        · rw [Int.toNat_natCast, rep_flat]
          have lv2 := lv1.more (z := z) (r := lev L (i + 1) []) nz
          rw [← rows_more] at lv2
          have el : (lev L (i + 1) []).map V.int = List.replicate (L.length ^ (i + 1)) (V.int 0) := by
            rw [lev_empty, List.map_replicate]
          rw [el] at lv2
          have tp : upd (upd H2 z1 (.lst [V.int 0])) z (.lst (List.replicate (L.length ^ (i + 1)) (V.int 0))) p = some (.lst (qs.map V.ref)) := by
            rw [upd_ne (ne_of_none lv1.top nz)]
            exact lv1.top
          refine ⟨p, _, _, rfl, rfl, tp, by rw [List.length_map, lq]; exact sz_lt (by omega), ?_⟩
          have ea : qs.map V.ref ++ [V.ref z] = (qs ++ [z]).map V.ref := by rw [List.map_append]; rfl
          rw [ea]
          have fz : H z = none := fresh_back (e2.trans (Ex.new nz1)) nz
          refine ⟨qs ++ [z], _, _, _, rfl, ?_, lv2, fun q hq => ?_⟩
          · exact Ex.mut ((e2.trans (Ex.new nz1)).trans (Ex.new nz)) fp
          · rcases List.mem_append.mp hq with e | e
            · exact fqs q e
            · rw [List.mem_singleton] at e
              rw [e]
              exact fz
    · obtain ⟨qs, y5, y6, y7, rfl, e2, lv, fqs⟩ := hp
      -- for sign in signs
      refine forS (l := t) (ev_var rfl) (fun i σ H3 => ∃ y5 y6 y7, σ = [some (tx L), some (.int (d : Nat)), some (tx t), some (.int (L.length : Int)), some (.ref p), y5, y6, y7] ∧ Ex H H3 ∧ LvAt H3 p qs (rows L d (t.take i))) (fun H1 e1 => ⟨_, _, _, rfl, e2.trans e1, ⟨e1 _ _ lv.top, lv.nd, lv.out, lv.len, fun n q r hq hr => e1 _ _ (lv.row n q r hq hr)⟩⟩) (fun i c σ' H' hc hp => ?_) (fun σ' H' hp => ?_)
      · obtain ⟨y5, y6, y7, rfl, e3, l3⟩ := hp
        have hcl : Low [c] := fun x hx => by
          rw [List.mem_singleton] at hx
          rw [hx]
          exact ht c (List.mem_of_getElem? hc)
        have et : t.take (i + 1) = t.take i ++ [c] := by
          rw [List.take_add_one, hc]
          rfl
        refine ⟨_, rfl, ⟨_, rfl⟩, mk [c], rfl, rfl, by rw [mk_len]; exact (by decide : 1 ≤ 5592405), ?_⟩
        rw [lower_low hcl]
        refine ⟨_, rfl, _, rfl, c, mk L, rfl, rfl, _, rfl, ?_⟩
        rw [mk_list]
        refine ite2 (fun h => ?_) (fun h => ?_)
        · have hm : c ∈ L := of_decide_eq_true h
          obtain ⟨k, hk⟩ := List.mem_iff_getElem?.mp hm
          have first : ∀ j, j < k → L[j]? ≠ some c := fun j hj e => by
            have := nd_ix nd e hk
            omega
          refine ⟨_, rfl, _, rfl, _, rfl, rfl, _, rfl, mk L, mk [c], k, [], rfl, rfl, index_one hk first, _, rfl, _, rfl, rfl, ?_⟩
          rw [decide_eq_true rfl]
          refine ⟨p, qs, L, d, t.take i, k, c, rfl, l3, nd, l26, d12, hk, hh, fun H4 f4 l4 => ?_⟩
          refine ⟨_, _, _, rfl, fun a o ho => ?_, by rw [et]; exact l4⟩
          have na : a ∉ qs := fun hq => by
            have := fqs a hq
            rw [ho] at this
            cases this
          exact f4 a o na (e3 a o ho)
        · have hm : c ∉ L := fun z => h (decide_eq_true z)
          have er : rows L d (t.take (i + 1)) = rows L d (t.take i) := by
            rw [et]
            unfold rows
            apply List.map_congr_left
            intro n _
            exact lev_other L n _ c hm
          exact ⟨_, _, _, rfl, e3, by rw [er]; exact l3⟩
      · obtain ⟨y5, y6, y7, rfl, e3, l3⟩ := hp
        rw [List.take_of_length_le (Nat.le_refl _)] at l3
        exact ⟨_, rfl, q H' p qs e3 fp l3⟩
end
end K05
set_option Elab.async false
set_option linter.all false
set_option maxRecDepth 100000
set_option maxHeartbeats 4000000
namespace K05
open PySem PySem.Spec PyProof.Rows L2 Evl Bx
section
variable {P : Program} {w : World} {K : PySem.W.Frag} {mg : Str → Option Value} {base : Heap}
open Lx Mx
def sp_row (K : PySem.W.Frag) : Sp := fun vs H Q _ => ∃ p qs rows, vs = [.ref p] ∧ LvAt H p qs rows ∧ rows.flatten.length ≤ 50000 ∧ ∀ H' r, Ex H H' → H r = none → H' r = some (.lst (rows.flatten.map V.int)) → Q (.ref r) H'
theorem flat_take (rows : List (List Int)) (i : Nat) (r : List Int) (h : rows[i]? = some r) : (rows.take (i + 1)).flatten = (rows.take i).flatten ++ r := by
  rw [List.take_add_one, h, List.flatten_append]
  simp
theorem flat_le (rows : List (List Int)) (i : Nat) (r : List Int) (h : rows[i]? = some r) : ((rows.take i).flatten ++ r).length ≤ rows.flatten.length := by
  rw [← flat_take rows i r h]
  have e : rows.flatten = (rows.take (i + 1)).flatten ++ (rows.drop (i + 1)).flatten := by
    rw [← List.flatten_append, List.take_append_drop]
  rw [e, List.length_append]
  omega
theorem ok_row_of_levels (T : Tx K mg) : FnOk P w K mg base CX0 1 T.a_row_of_levels T.fd_row_of_levels ["levels"] (sp_row K) := by
  refine T.F_row_of_levels.ok sc_row_of_levels (fun vs H Q E h => ?_) (fun cdv A outer s H vs Q E hr h => ?_)
  · obtain ⟨_, _, _, rfl, _⟩ := h
    rfl
  · obtain ⟨p, qs, rows, rfl, lv, hz, q⟩ := h
    refine ⟨_, (pss_one (ps_ret (pe_lc2 (wi1 := iList K (tVar 1)) (own := [("level", 1), ("number", 2)]) (vs1 := [2]) (g := (gName 1)) (g1 := (gName 2)) (tt := tYes) (tt1 := tYes) rfl sc_row_of_levels.nd (pi_list (pv 0)) (blkOk_by (own := [("level", 1), ("number", 2)]) (N := N_row_of_levels) (sc := defScope s_row_of_levels) (by decide +kernel)) (by decide) (fun _ _ _ _ _ => (pg_name (i := 1) sc_row_of_levels.nd rfl (by first | exact Or.inl rfl | exact Or.inr rfl))) (fun _ _ _ _ _ => pts_nil) (fun _ _ _ _ _ => (pi_list (pv 1))) (fun _ _ _ _ _ => (pg_name (i := 2) sc_row_of_levels.nd rfl (by first | exact Or.inl rfl | exact Or.inr rfl))) (fun _ _ _ _ _ => pts_nil) (fun _ _ _ _ _ => (pv 2))))), ?_⟩
    refine ⟨_, rfl, p, rfl, ⟨_, .inl (.inl lv.top)⟩, fun D nD => ?_⟩
    refine ⟨fun i m H' => m = rows.length - i ∧ i ≤ rows.length ∧ Ex H H' ∧ H' D = some (.lst ((rows.take i).flatten.map V.int)), ⟨rows.length, by simp, Nat.zero_le _, Ex.new nD, upd_same⟩, ?_⟩
    rintro i m H' ⟨rfl, hi, e1, hD⟩
    by_cases hlt : i < rows.length
    · have lt2 : i < qs.length := by rw [lv.len]; exact hlt
      have qi : qs[i]? = some qs[i] := List.getElem?_eq_getElem lt2
      have ri : rows[i]? = some rows[i] := List.getElem?_eq_getElem hlt
      generalize qs[i] = u at qi
      generalize rows[i] = r at ri
      have hr0 := lv.row i _ _ qi ri
      refine .inr ⟨⟨_, _, .inl (.inl (e1 _ _ lv.top)), by rw [List.getElem?_map, qi]; rfl⟩, fun H2 => Ex H H2 ∧ H2 D = some (.lst ((rows.take (i + 1)).flatten.map V.int)), fun H2 h2 => ⟨rows.length - (i + 1), by omega, rfl, hlt, h2.1, h2.2⟩, fun x H2 y => ?_⟩
      obtain ⟨rfl, fx⟩ := y
      have ex : x = .ref u := by
        have := fx _ (.inl (.inl (e1 _ _ lv.top)))
        rw [List.getElem?_map, qi] at this
        exact (Option.some.inj this).symm
      subst ex
      refine ⟨rfl, ?_⟩
      have hu : SqL K H2 u (r.map V.int) := .inl (.inl (e1 _ _ hr0))
      refine ⟨_, rfl, u, rfl, ⟨_, hu⟩, fun j k H3 => k = r.length - j ∧ j ≤ r.length ∧ Ex H H3 ∧ H3 D = some (.lst (((rows.take i).flatten ++ r.take j).map V.int)), ⟨r.length, by simp, Nat.zero_le _, e1, by rw [List.take_zero, List.append_nil]; exact hD⟩, ?_⟩
      rintro j k H3 ⟨rfl, hj, e3, hD3⟩
      have hu3 : SqL K H3 u (r.map V.int) := .inl (.inl (e3 _ _ hr0))
      by_cases jl : j < r.length
      · have rj : r[j]? = some r[j] := List.getElem?_eq_getElem jl
        generalize r[j] = z at rj
        refine .inr ⟨⟨_, _, hu3, by rw [List.getElem?_map, rj]; rfl⟩, fun H4 => Ex H H4 ∧ H4 D = some (.lst (((rows.take i).flatten ++ r.take (j + 1)).map V.int)), fun H4 h4 => ⟨r.length - (j + 1), by omega, rfl, jl, h4.1, h4.2⟩, fun x H4 y => ?_⟩
        obtain ⟨rfl, fx⟩ := y
        have ex : x = .int z := by
          have := fx _ hu3
          rw [List.getElem?_map, rj] at this
          exact (Option.some.inj this).symm
        subst ex
        refine ⟨rfl, ⟨_, rfl, _, hD3, ?_, Ex.mut e3 nD, ?_⟩⟩
        · have := flat_le rows i r ri
          rw [List.length_map, List.length_append, List.length_take]
          rw [List.length_append] at this
          exact sz_lt (by omega)
        · rw [upd_same, List.take_add_one, rj]
          simp
      · have ej : r.take j = r := List.take_of_length_le (by omega)
        refine .inl ⟨⟨_, hu3, by rw [List.length_map]; omega⟩, e3, ?_⟩
        rw [flat_take rows i r ri]
        rw [ej] at hD3
        exact hD3
    · have ei : rows.take i = rows := List.take_of_length_le (by omega)
      rw [ei] at hD
      exact .inl ⟨⟨_, .inl (.inl (e1 _ _ lv.top)), by rw [List.length_map, lv.len]; omega⟩, q H' D e1 nD hD⟩
def sp_counts (K : PySem.W.Frag) : Sp := fun vs H Q _ => ∃ L d t, vs = [tx L, .int (d : Nat), tx t] ∧ Alph L ∧ d ≤ 12 ∧ hm L.length d ≤ 400 ∧ Low t ∧ t.length ≤ 1000 ∧
  ∀ H' r, Ex H H' → H r = none → H' r = some (.lst (((upto L d).map fun u => ((cnt u t : Nat) : Int)).map V.int)) → Q (.ref r) H'
theorem upto_len (L : List Nat) : ∀ d, (upto L d).length = hm L.length d
  | 0 => by simp [upto, wd, hm]
  | d + 1 => by
    rw [upto, List.length_append, upto_len L d, wd_len]
    unfold hm
    rw [hm_part L.length (d + 1)]
theorem ok_counts (T : Tx K mg) : FnOk P w K mg base CX0 4 T.a_counts T.fd_counts ["letters", "depth", "text"] (sp_counts K) := by
  refine T.F_counts.ok sc_counts (fun vs H Q E h => ?_) (fun cdv A outer s H vs Q E hr h => ?_)
  · obtain ⟨_, _, _, rfl, _⟩ := h
    rfl
  · obtain ⟨L, d, t, rfl, al, d12, hh, ht, tl, q⟩ := h
    refine ⟨_, (pss_cons (ps_expr (pe_call (ok_need_letters T) (hr.mono (by decide)) (by rfl) T.g_need_letters T.F_need_letters.kp (b_need_letters T) .nil pass0 (pa_cons (pv 0) pa_nil))) (pss_cons (ps_if (pt_not (pt_val (pe_call (ok_is_from_to T) (hr.mono (by decide)) (by rfl) T.g_is_from_to T.F_is_from_to.kp (b_is_from_to T) .nil pass0 (pa_cons (pv 1) (pa_cons pe_int (pa_cons (pe_glob (v := .int 12) (by rfl) T.c_MOST_DEPTH ⟨_, rfl⟩) pa_nil)))))) (pss_one ps_never) pss_nil) (pss_cons (ps_expr (pe_call (ok_need_text T) (hr.mono (by decide)) (by rfl) T.g_need_text T.F_need_text.kp (b_need_text T) .nil pass0 (pa_cons (pv 2) pa_nil))) (pss_cons (ps_set (i := 3) sc_counts.nd rfl (by first | exact Or.inl rfl | exact Or.inr rfl) (pe_call (ok_how_many_words T) (hr.mono (by decide)) (by rfl) T.g_how_many_words T.F_how_many_words.kp (b_how_many_words T) .nil pass0 (pa_cons (pe_callB call_len_str (by rfl) T.n_len (by decide +kernel) (pa_cons (pv 0) pa_nil)) (pa_cons (pv 1) pa_nil)))) (pss_cons (ps_if (pt_cmpR op_gt (pv 3) (pe_glob (v := .int 400) (by rfl) T.c_MOST_WORDS ⟨_, rfl⟩) (nomark _)) (pss_one ps_never) pss_nil) (pss_one (ps_ret (pe_call (ok_row_of_levels T) (hr.mono (by decide)) (by rfl) T.g_row_of_levels T.F_row_of_levels.kp (b_row_of_levels T) .nil pass0 (pa_cons (pe_call (ok_levels_of_signs T) (hr.mono (by decide)) (by rfl) T.g_levels_of_signs T.F_levels_of_signs.kp (b_levels_of_signs T) .nil pass0 (pa_cons (pv 0) (pa_cons (pv 1) (pa_cons (pv 2) pa_nil)))) pa_nil))))))))), ?_⟩
    refine ⟨_, rfl, L, rfl, al, fun H1 e1 => ?_⟩
    refine ⟨_, rfl, (d : Nat), 0, 12, rfl, by omega, by omega, true, rfl, iteF ?_⟩
    refine ⟨_, rfl, t, rfl, ht, ?_⟩
    have f4 := al.four
    refine ⟨_, rfl, mk L, rfl, by rw [mk_len]; exact sz_of (by omega), _, rfl, L.length, d, ?_, by omega, by omega, ?_⟩
    · rw [mk_len]
      rfl
    refine ⟨_, rfl, _, 400, rfl, rfl, false, congrArg V.bl (decide_eq_false (by omega)), iteF ?_⟩
    refine ⟨_, rfl, _, rfl, _, rfl, L, d, t, rfl, lt_nodup al.up, al.one, by omega, d12, by omega, ht, tl, fun H2 p qs e2 np lv => ?_⟩
    refine ⟨p, qs, rows L d t, rfl, lv, ?_, fun H3 r e3 nr h3 => ?_⟩
    · rw [rows_flat, List.length_map, upto_len]
      omega
    · rw [rows_flat] at h3
      exact q H3 r (e1.trans (e2.trans e3)) (fresh_back (e1.trans e2) nr) h3
end
end K05
set_option Elab.async false
set_option linter.all false
set_option maxRecDepth 100000
set_option maxHeartbeats 4000000
namespace Bx
open PySem PySem.Spec PyProof.Rows L2 Evl
theorem joinL_nil : ∀ ps : List (List Nat), TL.joinL [] ps = ps.flatten
  | [] => rfl
  | [p] => by simp [TL.joinL]
  | p :: q :: r => by
    show p ++ ([] ++ TL.joinL [] (q :: r)) = _
    rw [joinL_nil (q :: r)]
    rfl
theorem join_mk (ps : List (List Nat)) : Txt.join (mk []) (ps.map mk) = mk ps.flatten := by
  rw [TL.join_eq]
  have h := TL.tl_join (mk []) (ps.map mk)
  rw [List.map_map] at h
  have e : (ps.map (TL.tl ∘ mk)) = ps := by
    conv => rhs; rw [← List.map_id ps]
    exact List.map_congr_left fun _ _ => rfl
  rw [e] at h
  have h2 : TL.tl (Str.join (mk []) (ps.map mk)) = ps.flatten := by
    rw [h]
    exact joinL_nil ps
  rw [mk_eq (Str.join (mk []) (ps.map mk))]
  exact congrArg mk h2
theorem sing_flat (t : List Nat) : (t.map fun c => [c]).flatten = t := by
  induction t with
  | nil => rfl
  | cons c t ih => simp only [List.map_cons, List.flatten_cons, ih]; rfl
theorem join_signs (t : List Nat) : Txt.join (mk []) (t.map fun c => mk [c]) = mk t := by
  have h := join_mk (t.map fun c => [c])
  rw [List.map_map, sing_flat] at h
  exact h
theorem len_signs (t : List Nat) : ((t.map fun c => mk [c]).map (·.length)).sum = t.length := by
  induction t with
  | nil => rfl
  | cons c t ih =>
    simp only [List.map_cons, List.sum_cons, List.length_cons, ih]
    rw [mk_len]
    simp
    omega
/-! ### the draws of a law -/
/-- a generator's list: what is left of a great seed, the small one, the number of draws, at most n -/
def Gen (H : Hp) (g : Addr) (n : Nat) : Prop := ∃ b s c : Int, H g = some (.lst [.int b, .int s, .int c]) ∧ 0 ≤ b ∧ b < 2 ^ 3000 ∧ 0 ≤ s ∧ s < 2147483647 ∧ 0 ≤ c ∧ c ≤ n
theorem Gen.ex {H H' : Hp} {g : Addr} {n : Nat} (h : Gen H g n) (e : Ex H H') : Gen H' g n := let ⟨b, s, c, h1, r⟩ := h; ⟨b, s, c, e _ _ h1, r⟩
theorem Gen.up {H : Hp} {g : Addr} {n m : Nat} (h : Gen H g n) (e : n ≤ m) : Gen H g m := let ⟨b, s, c, h1, h2, h3, h4, h5, h6, h7⟩ := h; ⟨b, s, c, h1, h2, h3, h4, h5, h6, by omega⟩
theorem Gen.there {H : Hp} {g : Addr} {n : Nat} (h : Gen H g n) : H g ≠ none := fun e => by
  obtain ⟨b, s, c, h1, _⟩ := h
  rw [h1] at e
  cases e
theorem Gen.ne {H : Hp} {g p : Addr} {n : Nat} (h : Gen H g n) (e : H p = none) : g ≠ p := fun z => h.there (by rw [z]; exact e)
theorem Gen.oth {H : Hp} {g p : Addr} {n : Nat} {o : HO} (h : Gen H g n) (e : g ≠ p) : Gen (upd H p o) g n := let ⟨b, s, c, h1, r⟩ := h; ⟨b, s, c, by rw [upd_ne e]; exact h1, r⟩
theorem bits_le {i : Int} {n : Nat} (h0 : 0 < n) (h : i.natAbs < 2 ^ n) : Builtin.Int.intBits i ≤ n := by
  unfold Builtin.Int.intBits
  split
  · omega
  · have := PySem.Flt.log2_lt_of h0 h
    omega
theorem mid_abs {i : Int} (h : i.natAbs < 2 ^ 200) : i.natAbs < 2 ^ 9000 := Nat.lt_of_lt_of_le h (Nat.pow_le_pow_right (by decide) (by decide))
theorem Xg.ne {g : Addr} {H H' : Hp} {p : Addr} {o : HO} (e : Xg g H H') (h : H p = some o) (n : p ≠ g) : H' p = some o := e p o n h
theorem Xg.mut {g : Addr} {H H' : Hp} {p : Addr} {o : HO} (e : Xg g H H') (h : H p = none) : Xg g H (L2.upd H' p o) := fun a u n ha => by
  rw [upd_ne (ne_of_none ha h)]
  exact e a u n ha
theorem Xg.ex {g : Addr} {H H1 H2 : Hp} (a : Xg g H H1) (b : Ex H1 H2) : Xg g H H2 := a.trans (Xg.of b)
end Bx
set_option Elab.async false
set_option linter.all false
set_option maxRecDepth 100000
set_option maxHeartbeats 4000000
namespace K05
open PySem PySem.Spec PyProof.Rows L2 Evl Bx
section
variable {P : Program} {w : World} {K : PySem.W.Frag} {mg : Str → Option Value} {base : Heap}
/-! ### draws -/
def sp__law_hash (K : PySem.W.Frag) : Sp := fun vs H Q _ => ∃ s i : Int, vs = [.int s, .int i] ∧ 0 ≤ s ∧ s < 2147483647 ∧ 0 ≤ i ∧ i ≤ 2 ^ 60 ∧ ∀ r : Int, 0 ≤ r → r < 2147483647 → Q (.int r) H
theorem ok__law_hash (T : Tx K mg) : FnOk P w K mg base CX0 1 T.a__law_hash T.fd__law_hash ["_law_seed", "_law_index"] (sp__law_hash K) := by
  refine T.F__law_hash.ok sc__law_hash (fun vs H Q E h => ?_) (fun cdv A outer s H vs Q E hr h => ?_)
  · obtain ⟨_, _, rfl, _⟩ := h
    rfl
  · obtain ⟨s0, i, rfl, s1, s2, i1, i2, q⟩ := h
    refine ⟨_, (pss_cons (ps_set (i := 2) sc__law_hash.nd rfl (by first | exact Or.inl rfl | exact Or.inr rfl) (pe_op op_mod (pe_callTy call_int1 (by rfl) T.n_int (by decide +kernel) (pa_cons (pe_op op_add (pe_op op_add (pe_op op_add (pe_op op_mulW (pv 0) pe_int) (pe_op op_mulW (pe_op op_mulW pe_int (pv 1)) (pv 1))) (pe_op op_mulW pe_int (pv 1))) pe_int) pa_nil)) pe_int)) (pss_cons (ps_set (i := 2) sc__law_hash.nd rfl (by first | exact Or.inl rfl | exact Or.inr rfl) (pe_op op_mod (pe_callTy call_int1 (by rfl) T.n_int (by decide +kernel) (pa_cons (pe_op op_add (pe_op op_add (pe_op op_mulW (pv 2) (pv 2)) (pe_op op_mulW pe_int (pv 1))) pe_int) pa_nil)) pe_int)) (pss_one (ps_ret (pe_op op_mod (pe_callTy call_int1 (by rfl) T.n_int (by decide +kernel) (pa_cons (pe_op op_mulW (pv 2) pe_int) pa_nil)) pe_int))))), ?_⟩
    refine ⟨_, rfl, _, _, rfl, rfl, mul_ok (small_abs (by omega)) (small_abs (by decide)), _, rfl, _, _, rfl, rfl, mul_ok (small_abs (by decide)) (small_abs (by omega)), _, rfl, _, _, rfl, rfl, mul_ok (mid_abs (by omega)) (small_abs (by omega)), _, _, rfl, rfl, _, rfl, _, _, rfl, rfl, mul_ok (small_abs (by decide)) (small_abs (by omega)), _, _, rfl, rfl, _, _, rfl, rfl, .inl ⟨_, rfl, ?_⟩⟩
    refine ⟨_, _, rfl, rfl, (by show (0 : Int) < 2147483629; decide), ?_⟩
    generalize hx : (s0 * 1140671 + 27644437 * i * i + 131 * i + 19 : Int) % 2147483629 = x
    have x1 : 0 ≤ x := by rw [← hx]; exact Int.emod_nonneg _ (by decide)
    have x2 : x < 2147483629 := by rw [← hx]; exact Int.emod_lt_of_pos _ (by decide)
    refine ⟨_, rfl, _, rfl, _, _, rfl, rfl, mul_ok (small_abs (by omega)) (small_abs (by omega)), _, rfl, _, _, rfl, rfl, mul_ok (small_abs (by decide)) (small_abs (by omega)), _, _, rfl, rfl, _, _, rfl, rfl, .inl ⟨_, rfl, ?_⟩⟩
    refine ⟨_, _, rfl, rfl, (by show (0 : Int) < 2147483587; decide), ?_⟩
    generalize hy : (x * x + 62089 * i + 32416187 : Int) % 2147483587 = y
    have y1 : 0 ≤ y := by rw [← hy]; exact Int.emod_nonneg _ (by decide)
    have y2 : y < 2147483587 := by rw [← hy]; exact Int.emod_lt_of_pos _ (by decide)
    refine ⟨_, rfl, _, _, rfl, rfl, mul_ok (small_abs (by omega)) (small_abs (by decide)), .inl ⟨_, rfl, ?_⟩⟩
    refine ⟨_, _, rfl, rfl, (by show (0 : Int) < 2147483647; decide), ?_⟩
    exact q _ (Int.emod_nonneg _ (by decide)) (Int.emod_lt_of_pos _ (by decide))
end
end K05
set_option Elab.async false
set_option linter.all false
set_option maxRecDepth 100000
set_option maxHeartbeats 4000000
namespace K05
open PySem PySem.Spec PyProof.Rows L2 Evl Bx
section
variable {P : Program} {w : World} {K : PySem.W.Frag} {mg : Str → Option Value} {base : Heap}
def sp__law_random (K : PySem.W.Frag) : Sp := fun vs H Q _ => ∃ (g : Addr) (bd : Int) (n : Nat), vs = [.ref g, .int bd] ∧ 0 < bd ∧ bd < 2 ^ 200 ∧ Gen H g n ∧ n ≤ 2 ^ 50 ∧
  ∀ (r : Int) H', 0 ≤ r → r < bd → Xg g H H' → Gen H' g (n + 10) → Q (.int r) H'
theorem grow_lt (i : Nat) (hi : i ≤ 20) : (2 : Nat) ^ (32 * i) < 2 ^ 9000 := Nat.pow_lt_pow_right (by decide) (by omega)
theorem ok__law_random (T : Tx K mg) : FnOk P w K mg base CX0 2 T.a__law_random T.fd__law_random ["_law_generator_here", "_law_bound"] (sp__law_random K) := by
  refine T.F__law_random.ok sc__law_random (fun vs H Q E h => ?_) (fun cdv A outer s H vs Q E hr h => ?_)
  · obtain ⟨_, _, _, rfl, _⟩ := h
    rfl
  · obtain ⟨g, bd, n, rfl, b1, b2, ⟨b, s0, c, hg, g1, g2, g3, g4, g5, g6⟩, n50, q⟩ := h
    refine ⟨_, (pss_cons (ps_if (pt_cmpR op_gt (pe_ix ix_list (pv 0) pe_int (fun _ _ => rfl)) pe_int (nomark _)) (pss_cons (ps_set (i := 2) sc__law_random.nd rfl (by first | exact Or.inl rfl | exact Or.inr rfl) (pe_op op_mod (pe_callTy call_int1 (by rfl) T.n_int (by decide +kernel) (pa_cons (pe_ix ix_list (pv 0) pe_int (fun _ _ => rfl)) pa_nil)) (pv 1))) (pss_cons (ps_asg (pe_op op_fdivW (pe_ix ix_list (pv 0) pe_int (fun _ _ => rfl)) (pv 1)) (pg_sub (pv 0) pe_int set_list)) (pss_one (ps_ret (pv 2))))) pss_nil) (pss_cons (ps_set (i := 2) sc__law_random.nd rfl (by first | exact Or.inl rfl | exact Or.inr rfl) pe_int) (pss_cons (ps_for PassesOwn.never rfl (pi_range1 (by rfl) T.n_range (pa_cons (pe_op op_add pe_int (pe_op op_fdivW (pe_bits (pv 1)) pe_int)) pa_nil)) (pg_name (i := 3) sc__law_random.nd rfl (by first | exact Or.inl rfl | exact Or.inr rfl)) (pss_cons (ps_asg (pe_op op_add (pe_ix ix_list (pv 0) pe_int (fun _ _ => rfl)) pe_int) (pg_sub (pv 0) pe_int set_list)) (pss_one (ps_set (i := 2) sc__law_random.nd rfl (by first | exact Or.inl rfl | exact Or.inr rfl) (pe_op op_add (pe_op op_mulW (pv 2) pe_int) (pe_call (ok__law_hash T) (hr.mono (by decide)) (by rfl) T.g__law_hash T.F__law_hash.kp (b__law_hash T) .nil pass0 (pa_cons (pe_ix ix_list (pv 0) pe_int (fun _ _ => rfl)) (pa_cons (pe_ix ix_list (pv 0) pe_int (fun _ _ => rfl)) pa_nil)))))))) (pss_one (ps_ret (pe_op op_mod (pe_callTy call_int1 (by rfl) T.n_int (by decide +kernel) (pa_cons (pv 2) pa_nil)) (pv 1))))))), ?_⟩
    refine ⟨_, rfl, g, _, _, .int b, rfl, rfl, .inl (.inl hg), atI_nat (j := 0) rfl, _, 0, rfl, rfl, _, rfl, ite2 (fun h => ?_) (fun h => ?_)⟩
    · -- a great seed is left
      refine ⟨_, rfl, g, _, _, .int b, rfl, rfl, .inl (.inl hg), atI_nat (j := 0) rfl, .inl ⟨_, rfl, ?_⟩⟩
      refine ⟨_, rfl, _, _, rfl, rfl, b1, ?_⟩
      refine ⟨_, rfl, g, _, _, .int b, rfl, rfl, .inl (.inl hg), atI_nat (j := 0) rfl, _, rfl, _, _, rfl, rfl, wide_div b1 (b := 200) (by omega) (by decide) (by decide), ?_⟩
      refine ⟨_, rfl, g, _, _, 0, rfl, rfl, hg, ixN_nat (j := 0) (by simp), ?_⟩
      refine ⟨_, rfl, q _ _ (Int.emod_nonneg _ (by omega)) (Int.emod_lt_of_pos _ b1) (Xg.refl g H).upd ⟨b / bd, s0, c, upd_same, Int.ediv_nonneg g1 (by omega), ?_, g3, g4, g5, by omega⟩⟩
      exact Int.lt_of_le_of_lt (Int.ediv_le_self _ g1) g2
    · -- the hash
      have hb := bits_le (i := bd) (n := 200) (by decide) (by omega)
      refine ⟨_, rfl, _, rfl, _, _, rfl, rfl, ⟨by decide, by decide⟩, _, _, rfl, rfl, ?_⟩
      have hd : ((Builtin.Int.intBits bd : Nat) : Int) / 30 ≤ 6 := by omega
      have hd0 : 0 ≤ ((Builtin.Int.intBits bd : Nat) : Int) / 30 := by omega
      refine ⟨_, rfl, by omega, by omega, ?_⟩
      have hm : (1 + ((Builtin.Int.intBits bd : Nat) : Int) / 30).toNat ≤ 7 := by omega
      generalize (1 + ((Builtin.Int.intBits bd : Nat) : Int) / 30).toNat = m at hm
      refine for_range (lo := 0) (n := m) (fun i σ H2 => ∃ (dr : Int) (y3 : Option V), σ = [some (.ref g), some (.int bd), some (.int dr), y3] ∧ 0 ≤ dr ∧ dr < 2 ^ (32 * i) ∧ Xg g H H2 ∧ ∃ c2 : Int, H2 g = some (.lst [.int b, .int s0, .int c2]) ∧ 0 ≤ c2 ∧ c2 ≤ n + i) ⟨0, none, rfl, by decide, by decide, Xg.refl g H, c, hg, g5, by omega⟩ (fun i σ H2 hi hp => ?_) (fun σ H2 hp => ?_)
      · obtain ⟨dr, y3, rfl, d0, d1, xg, c2, hg2, c20, c21⟩ := hp
        refine ⟨_, rfl, g, _, _, .int c2, rfl, rfl, .inl (.inl hg2), atI_nat (j := 2) rfl, _, _, rfl, rfl, ?_⟩
        refine ⟨_, rfl, g, _, _, 2, rfl, rfl, hg2, ixN_nat (j := 2) (by simp), ?_⟩
        have hg3 : upd H2 g (.lst [.int b, .int s0, .int (c2 + 1)]) g = some (.lst [.int b, .int s0, .int (c2 + 1)]) := upd_same
        have xg3 : Xg g H (upd H2 g (.lst [.int b, .int s0, .int (c2 + 1)])) := xg.upd
        show _
        have dn : dr.natAbs < 2 ^ 9000 := Nat.lt_of_lt_of_le (m := 2 ^ (32 * i)) (by
          have e : ((2 ^ (32 * i) : Nat) : Int) = (2 : Int) ^ (32 * i) := by rw [Int.natCast_pow]; rfl
          have : (dr.natAbs : Int) < ((2 ^ (32 * i) : Nat) : Int) := by rw [e, Int.natAbs_of_nonneg d0]; exact d1
          omega) (Nat.le_of_lt (grow_lt i (by omega)))
        refine ⟨_, rfl, _, _, rfl, rfl, mul_ok dn (small_abs (by decide)), _, rfl, g, _, _, .int s0, rfl, rfl, .inl (.inl hg3), atI_nat (j := 1) rfl, _, rfl, g, _, _, .int (c2 + 1), rfl, rfl, .inl (.inl hg3), atI_nat (j := 2) rfl, s0, c2 + 1, rfl, g3, g4, by omega, by omega, fun r r1 r2 => ?_⟩
        refine ⟨_, _, rfl, rfl, dr * 2147483587 + r, some (.int (0 + (i : Int))), rfl, ?_, ?_, xg3, c2 + 1, hg3, by omega, by omega⟩
        · have : 0 ≤ dr * 2147483587 := Int.mul_nonneg d0 (by decide)
          omega
        · have e : (2 : Int) ^ (32 * (i + 1)) = 2 ^ (32 * i) * 4294967296 := by
            rw [Nat.mul_add, Int.pow_add]
            rfl
          rw [e]
          generalize (2 : Int) ^ (32 * i) = z at d1 ⊢
          omega
      · obtain ⟨dr, y3, rfl, d0, d1, xg, c2, hg2, c20, c21⟩ := hp
        refine ⟨_, rfl, .inl ⟨_, rfl, ?_⟩⟩
        exact ⟨_, rfl, _, _, rfl, rfl, b1, q _ _ (Int.emod_nonneg _ (by omega)) (Int.emod_lt_of_pos _ b1) xg ⟨b, s0, c2, hg2, g1, g2, g3, g4, c20, by omega⟩⟩
/-! ### cells, generators -/
def sp__law_cell (K : PySem.W.Frag) : Sp := fun vs H Q _ => ∃ (a : Addr) (ns : List Int) (k : Nat), vs = [.ref a, .int (k : Nat)] ∧ SqL K H a (ns.map V.int) ∧ k ≤ 1000 ∧ ∀ (v : Int) H', Ex H H' → Q (.int v) H'
theorem cut_ints (ns : List Int) (lo hi : Option Int) : cutV (ns.map V.int) lo hi = ((ns.drop (HT.sIx ns.length 0 lo)).take (HT.sIx ns.length ns.length hi - HT.sIx ns.length 0 lo)).map V.int := by
  unfold cutV
  rw [List.length_map, List.map_take, List.map_drop]
theorem ok__law_cell (T : Tx K mg) : FnOk P w K mg base CX0 1 T.a__law_cell T.fd__law_cell ["_law_script", "_law_index"] (sp__law_cell K) := by
  refine T.F__law_cell.ok sc__law_cell (fun vs H Q E h => ?_) (fun cdv A outer s H vs Q E hr h => ?_)
  · obtain ⟨_, _, _, rfl, _⟩ := h
    rfl
  · obtain ⟨a, ns, k, rfl, hs, k1, q⟩ := h
    refine ⟨_, (pss_cons (ps_if (pt_cmpR op_lt (pv 1) (pe_callB call_len_seq (by rfl) T.n_len (by decide +kernel) (pa_cons (pv 0) pa_nil)) (nomark _)) (pss_one (ps_ret (pe_ix ix_list (pv 0) (pv 1) (fun _ _ => rfl)))) pss_nil) (pss_one (ps_ret (pe_op op_mod (pe_callB (cr_sum rfl) (by rfl) T.n_sum (by decide +kernel) (pa_cons (pe_slice sl_list (pv 0) po_none (po_some pe_int)) pa_nil)) pe_int)))), ?_⟩
    refine ⟨_, rfl, _, rfl, a, _, rfl, .inl hs, _, _, rfl, rfl, _, rfl, ite2 (fun h => ?_) (fun h => ?_)⟩
    · have h1 := of_decide_eq_true h
      rw [List.length_map] at h1
      have lt : k < ns.length := by omega
      exact ⟨_, rfl, _, rfl, a, _, _, .int ns[k], rfl, rfl, hs, atI_nat (by rw [List.getElem?_map, List.getElem?_eq_getElem lt]; rfl), q _ H (Ex.refl H)⟩
    · refine ⟨_, rfl, 1, rfl, a, _, rfl, hs, fun p np => ?_⟩
      rw [cut_ints]
      refine ⟨p, _, rfl, .inl (.inl upd_same), _, _, rfl, rfl, (by show (0 : Int) < 1000003; decide), q _ _ (Ex.new np)⟩
def sp__law_generator (K : PySem.W.Frag) : Sp := fun vs H Q _ => ∃ (a : Addr) (ns : List Int) (k : Nat), vs = [.ref a, .int (k : Nat)] ∧ SqL K H a (ns.map V.int) ∧ k ≤ 1000 ∧ ∀ (g : Addr) H', Ex H H' → H g = none → Gen H' g (1000 * k) → Q (.ref g) H'
theorem great : ((10 : Int) ^ 60) ^ 10 < 2 ^ 3000 := by decide +kernel
theorem ok__law_generator (T : Tx K mg) : FnOk P w K mg base CX0 2 T.a__law_generator T.fd__law_generator ["_law_script", "_law_index"] (sp__law_generator K) := by
  refine T.F__law_generator.ok sc__law_generator (fun vs H Q E h => ?_) (fun cdv A outer s H vs Q E hr h => ?_)
  · obtain ⟨_, _, _, rfl, _⟩ := h
    rfl
  · obtain ⟨a, ns, k, rfl, hs, k1, q⟩ := h
    refine ⟨_, (pss_cons (ps_set (i := 2) sc__law_generator.nd rfl (by first | exact Or.inl rfl | exact Or.inr rfl) (pe_call (ok__law_cell T) (hr.mono (by decide)) (by rfl) T.g__law_cell T.F__law_cell.kp (b__law_cell T) .nil pass0 (pa_cons (pv 0) (pa_cons (pv 1) pa_nil)))) (pss_one (ps_ret (pe_lst (pa_cons (pe_op op_mod (pe_callTy call_int1 (by rfl) T.n_int (by decide +kernel) (pa_cons (pe_callB (call_max2 rfl) (by rfl) T.n_max (by decide +kernel) (pa_cons (pe_op op_sub (pv 2) (pe_op Rx.op_powB pe_int pe_int)) (pa_cons pe_int pa_nil))) pa_nil)) (pe_op Rx.op_powB (pe_op Rx.op_powB pe_int pe_int) pe_int)) (pa_cons (pe_op op_mod (pe_callTy call_int1 (by rfl) T.n_int (by decide +kernel) (pa_cons (pv 2) pa_nil)) pe_int) (pa_cons (pe_op op_mulW pe_int (pv 1)) pa_nil))))))), ?_⟩
    refine ⟨_, rfl, _, rfl, a, ns, k, rfl, hs, k1, fun v H1 e1 => ?_⟩
    refine ⟨_, rfl, _, _, rfl, rfl, ⟨by decide, by decide +kernel⟩, _, _, rfl, rfl, _, _, rfl, .inl ⟨_, rfl, ?_⟩⟩
    refine ⟨_, _, rfl, rfl, ⟨by decide, by decide +kernel⟩, _, _, rfl, rfl, ⟨by decide, by decide +kernel⟩, _, _, rfl, rfl, ?_, ?_⟩
    · show (0 : Int) < (10 ^ 60) ^ 10
      decide +kernel
    refine ⟨_, rfl, .inl ⟨_, rfl, _, _, rfl, rfl, (by show (0 : Int) < 2147483647; decide), _, rfl, _, _, rfl, rfl, mul_ok (small_abs (by decide)) (small_abs (by omega)), ?_⟩⟩
    refine ⟨by show 3 ≤ sizeLine; decide, fun p np => ?_⟩
    refine q p _ (e1.trans (Ex.new np)) (fresh_back e1 np) ⟨_, _, _, upd_same, ?_, ?_, ?_, ?_, by omega, by omega⟩
    · exact Int.emod_nonneg _ (by
        show ((10 : Int) ^ 60) ^ 10 ≠ 0
        decide +kernel)
    · refine Int.lt_trans (Int.emod_lt_of_pos _ ?_) great
      show (0 : Int) < (10 ^ 60) ^ 10
      decide +kernel
    · exact Int.emod_nonneg _ (by decide)
    · exact Int.emod_lt_of_pos _ (by decide)
end
end K05
set_option Elab.async false
set_option linter.all false
set_option maxRecDepth 100000
set_option maxHeartbeats 4000000
namespace K05
open PySem PySem.Spec PyProof.Rows L2 Evl Bx
section
variable {P : Program} {w : World} {K : PySem.W.Frag} {mg : Str → Option Value} {base : Heap}
/-! ### drawn texts -/
def sp__law_text (K : PySem.W.Frag) : Sp := fun vs H Q _ => ∃ (g : Addr) (L : List Nat) (m n : Nat), vs = [.ref g, tx L, .int (m : Nat)] ∧ 1 ≤ L.length ∧ L.length ≤ 1000 ∧ m ≤ 1000 ∧ Gen H g n ∧ n ≤ 2 ^ 40 ∧
  ∀ (t : List Nat) H', t.length = m → (∀ c ∈ t, c ∈ L) → Xg g H H' → Gen H' g (n + 10 * m) → Q (tx t) H'
theorem ok__law_text (T : Tx K mg) : FnOk P w K mg base CX0 3 T.a__law_text T.fd__law_text ["_law_generator_here", "_law_letters", "_law_size"] (sp__law_text K) := by
  refine T.F__law_text.ok sc__law_text (fun vs H Q E h => ?_) (fun cdv A outer s H vs Q E hr h => ?_)
  · obtain ⟨_, _, _, _, rfl, _⟩ := h
    rfl
  · obtain ⟨g, L, m, n, rfl, l1, l2, m1, gn, n1, q⟩ := h
    refine ⟨_, (pss_one (ps_ret (pe_join pe_str (pe_lc (own := [("_law_turn", 3)]) (g := (gName 3)) (tt := tYes) rfl sc__law_text.nd (pi_range1 (by rfl) T.n_range (pa_cons (pv 2) pa_nil)) (blkOk_by (own := [("_law_turn", 3)]) (N := N__law_text) (sc := defScope s__law_text) (by decide +kernel)) (fun _ _ _ _ _ => (pg_name (i := 3) sc__law_text.nd rfl (by first | exact Or.inl rfl | exact Or.inr rfl))) (fun _ _ _ _ _ => pts_nil) (fun _ _ _ _ _ => (pe_ix ix_str (pv 1) (pe_call (ok__law_random T) (hr.mono (by decide)) (by rfl) T.g__law_random T.F__law_random.kp (b__law_random T) .nil pass0 (pa_cons (pv 0) (pa_cons (pe_callB call_len_str (by rfl) T.n_len (by decide +kernel) (pa_cons (pv 1) pa_nil)) pa_nil))) (fun _ _ => rfl))))))), ?_⟩
    refine ⟨⟨_, rfl⟩, _, rfl, (m : Nat), rfl, by omega, by omega, fun D nD => ?_⟩
    rw [Int.toNat_natCast]
    have gD : g ≠ D := gn.ne nD
    refine lc_range (lo := 0) (n := m) (fun i H2 => ∃ t : List Nat, t.length = i ∧ (∀ c ∈ t, c ∈ L) ∧ Xg g H H2 ∧ Gen H2 g (n + 10 * i) ∧ H2 D = some (.lst ((t.map fun c => mk [c]).map V.str))) ⟨[], rfl, by simp, Xg.of (Ex.new nD), gn.oth gD, upd_same⟩ (fun i H2 hi hp => ?_) (fun H2 hp => ?_)
    · obtain ⟨t, tl, tm, xg, gn2, hD⟩ := hp
      refine ⟨rfl, ?_⟩
      refine ⟨_, rfl, _, rfl, _, rfl, mk L, rfl, by rw [mk_len]; exact sz_of (by omega), g, _, n + 10 * i, rfl, by rw [mk_len]; omega, by rw [mk_len]; omega, gn2, by omega, fun r H3 r0 r1 xg3 gn3 => ?_⟩
      rw [mk_len] at r1
      obtain ⟨k, rfl⟩ := Int.eq_ofNat_of_zero_le r0
      have rl : k < L.length := by omega
      refine ⟨mk L, _, L[k], rfl, rfl, by rw [mk_len]; exact sz_of (by omega), atI_nat (by rw [mk_list]; exact List.getElem?_eq_getElem rl), ?_⟩
      have hD3 := xg3 D _ gD.symm hD
      refine ⟨_, hD3, by rw [List.length_map, List.length_map, tl]; exact sz_lt (by omega), t ++ [L[k]], by rw [List.length_append, tl]; rfl, fun c hc => ?_, (xg.trans xg3).mut nD, ?_, ?_⟩
      · rcases List.mem_append.mp hc with e | e
        · exact tm c e
        · rw [List.mem_singleton] at e
          rw [e]
          exact List.getElem_mem rl
      · have e : n + 10 * (i + 1) = n + 10 * i + 10 := by omega
        rw [e]
        exact gn3.oth gD
      · rw [upd_same, List.map_append, List.map_append]
        rfl
    · obtain ⟨t, tl, tm, xg, gn2, hD⟩ := hp
      refine ⟨mk [], D, t.map fun c => mk [c], rfl, rfl, .inl (.inl (.inl hD)), ?_, ?_⟩
      · rw [Bx.len_signs, List.length_map, mk_len]
        simp
        omega
      · rw [join_signs]
        exact q t H2 tl tm xg gn2
def sp__law_alphabet (K : PySem.W.Frag) : Sp := fun vs H Q _ => ∃ (g : Addr) (m n : Nat), vs = [.ref g, .int (m : Nat)] ∧ 1 ≤ m ∧ m ≤ 4 ∧ Gen H g n ∧ n ≤ 2 ^ 40 ∧
  ∀ (L : List Nat) H', Alph L → m ≤ L.length → Xg g H H' → Gen H' g (n + 60) → Q (tx L) H'
def abc : List Nat := [97, 98, 99, 100, 101, 102, 103, 104, 105, 106, 107, 108, 109, 110, 111, 112, 113, 114, 115, 116, 117, 118, 119, 120, 121, 122]
theorem abc_at (k : Nat) (h : k < 26) : abc[k]? = some (97 + k) := by
  have : ∀ k, k < 26 → abc[k]? = some (97 + k) := by decide +kernel
  exact this k h
theorem ok__law_alphabet (T : Tx K mg) : FnOk P w K mg base CX0 3 T.a__law_alphabet T.fd__law_alphabet ["_law_generator_here", "_law_least"] (sp__law_alphabet K) := by
  refine T.F__law_alphabet.ok sc__law_alphabet (fun vs H Q E h => ?_) (fun cdv A outer s H vs Q E hr h => ?_)
  · obtain ⟨_, _, _, rfl, _⟩ := h
    rfl
  · obtain ⟨g, m, n, rfl, m1, m4, gn, n1, q⟩ := h
    refine ⟨_, (pss_cons (ps_set (i := 2) sc__law_alphabet.nd rfl (by first | exact Or.inl rfl | exact Or.inr rfl) (pe_op op_add (pv 1) (pe_call (ok__law_random T) (hr.mono (by decide)) (by rfl) T.g__law_random T.F__law_random.kp (b__law_random T) .nil pass0 (pa_cons (pv 0) (pa_cons (pe_op op_sub pe_int (pv 1)) pa_nil))))) (pss_cons (ps_set (i := 3) sc__law_alphabet.nd rfl (by first | exact Or.inl rfl | exact Or.inr rfl) (pe_call (ok__law_random T) (hr.mono (by decide)) (by rfl) T.g__law_random T.F__law_random.kp (b__law_random T) .nil pass0 (pa_cons (pv 0) (pa_cons pe_int pa_nil)))) (pss_cons (ps_set (i := 4) sc__law_alphabet.nd rfl (by first | exact Or.inl rfl | exact Or.inr rfl) pe_str) (pss_cons (ps_for PassesOwn.never rfl (pi_range1 (by rfl) T.n_range (pa_cons (pv 2) pa_nil)) (pg_name (i := 5) sc__law_alphabet.nd rfl (by first | exact Or.inl rfl | exact Or.inr rfl)) (pss_cons (ps_set (i := 3) sc__law_alphabet.nd rfl (by first | exact Or.inl rfl | exact Or.inr rfl) (pe_op op_add (pe_op op_add (pv 3) pe_int) (pe_call (ok__law_random T) (hr.mono (by decide)) (by rfl) T.g__law_random T.F__law_random.kp (b__law_random T) .nil pass0 (pa_cons (pv 0) (pa_cons pe_int pa_nil))))) (pss_one (ps_set (i := 4) sc__law_alphabet.nd rfl (by first | exact Or.inl rfl | exact Or.inr rfl) (pe_op op_add_str (pv 4) (pe_ix ix_str pe_str (pv 3) (fun _ _ => rfl))))))) (pss_one (ps_ret (pv 4))))))), ?_⟩
    refine ⟨_, rfl, _, rfl, _, rfl, 5, _, rfl, rfl, g, _, n, rfl, by omega, by omega, gn, by omega, fun r H1 r0 r1 x1 g1 => ?_⟩
    refine ⟨_, _, rfl, rfl, ?_⟩
    refine ⟨_, rfl, g, 10, n + 10, rfl, by decide, by decide, g1, by omega, fun r2 H2 r20 r21 x2 g2 => ?_⟩
    -- the letters
    have hmany : ((m : Int) + r).toNat ≤ 4 := by omega
    have hmany1 : m ≤ ((m : Int) + r).toNat := by omega
    refine ⟨_, rfl, (m : Int) + r, rfl, by omega, by omega, ?_⟩
    generalize ((m : Int) + r).toNat = k at hmany hmany1
    refine for_range (lo := 0) (n := k) (fun i σ H3 => ∃ (st : Nat) (L : List Nat) (y5 : Option V), σ = [some (.ref g), some (.int (m : Nat)), some (.int ((m : Int) + r)), some (.int (st : Nat)), some (tx L), y5] ∧ st ≤ 9 + 3 * i ∧ L.length = i ∧ L.Pairwise (· < ·) ∧ (∀ c ∈ L, 97 ≤ c ∧ c ≤ 97 + st) ∧ Xg g H H3 ∧ Gen H3 g (n + 20 + 10 * i)) ⟨r2.toNat, [], none, ?_, by omega, rfl, List.Pairwise.nil, by simp, x1.trans x2, g2⟩ (fun i σ H3 hi hp => ?_) (fun σ H3 hp => ?_)
    · have e : ((r2.toNat : Nat) : Int) = r2 := by omega
      rw [e]
      rfl
    · obtain ⟨st, L, y5, rfl, s1, ll, lp, lm, x3, g3⟩ := hp
      refine ⟨_, rfl, _, 1, rfl, rfl, _, rfl, g, 3, n + 20 + 10 * i, rfl, by decide, by decide, g3, by omega, fun r3 H4 r30 r31 x4 g4 => ?_⟩
      refine ⟨_, _, rfl, rfl, ?_⟩
      have es : (st : Int) + 1 + r3 = ((st + 1 + r3.toNat : Nat) : Int) := by omega
      have sb : st + 1 + r3.toNat < 26 := by omega
      refine ⟨_, rfl, _, rfl, mk abc, _, 97 + (st + 1 + r3.toNat), by rfl, rfl, by decide, ?_, _, _, rfl, rfl, ?_, ?_⟩
      · rw [es]
        exact atI_nat (by rw [mk_list]; exact abc_at _ sb)
      · rw [mk_len]
        show _ + 1 ≤ _
        exact sz_of (by omega)
      · have ea : (⟨#[97 + (st + 1 + r3.toNat)]⟩ : Str) = mk [97 + (st + 1 + r3.toNat)] := rfl
        rw [ea, mk_app]
        refine ⟨st + 1 + r3.toNat, L ++ [97 + (st + 1 + r3.toNat)], _, by rw [← es]; rfl, by omega, by rw [List.length_append, ll]; rfl, ?_, fun c hc => ?_, x3.trans x4, g4⟩
        · rw [List.pairwise_append]
          refine ⟨lp, List.pairwise_singleton _ _, fun a ha b hb => ?_⟩
          rw [List.mem_singleton] at hb
          have := lm a ha
          omega
        · rcases List.mem_append.mp hc with e | e
          · have := lm c e
            omega
          · rw [List.mem_singleton] at e
            omega
    · obtain ⟨st, L, y5, rfl, s1, ll, lp, lm, x3, g3⟩ := hp
      refine ⟨_, rfl, q L H3 ⟨fun c hc => ?_, lp, by omega, by omega⟩ (by omega) x3 (g3.up (by omega))⟩
      have := lm c hc
      omega
/-! ### the law's own count -/
def sp__law_count (K : PySem.W.Frag) : Sp := fun vs H Q _ => ∃ u t, vs = [tx u, tx t] ∧ u.length ≤ 1000 ∧ t.length ≤ 1000 ∧ ∀ H', Ex H H' → Q (.int ((Mx.cnt u t : Nat) : Int)) H'
theorem ok__law_count (T : Tx K mg) : FnOk P w K mg base CX0 1 T.a__law_count T.fd__law_count ["_law_word", "_law_text_here"] (sp__law_count K) := by
  refine T.F__law_count.ok sc__law_count (fun vs H Q E h => ?_) (fun cdv A outer s H vs Q E hr h => ?_)
  · obtain ⟨u, t, rfl, _⟩ := h
    rfl
  · obtain ⟨u, t, rfl, lu, lt, q⟩ := h
    refine ⟨_, (pss_cons (ps_set (i := 2) sc__law_count.nd rfl (by first | exact Or.inl rfl | exact Or.inr rfl) (pe_op op_cat (pe_lst (pa_cons pe_int pa_nil)) (pe_op op_rep (pe_lst (pa_cons pe_int pa_nil)) (pe_callB call_len_str (by rfl) T.n_len (by decide +kernel) (pa_cons (pv 0) pa_nil))))) (pss_cons (ps_for PassesOwn.never rfl (pi_str (pv 1)) (pg_name (i := 3) sc__law_count.nd rfl (by first | exact Or.inl rfl | exact Or.inr rfl)) (pss_one (ps_for PassesOwn.never rfl (pi_range3 (by rfl) T.n_range (pa_cons (pe_op op_sub (pe_callB call_len_str (by rfl) T.n_len (by decide +kernel) (pa_cons (pv 0) pa_nil)) pe_int) (pa_cons (pe_op op_sub pe_int pe_int) (pa_cons (pe_op op_sub pe_int pe_int) pa_nil)))) (pg_name (i := 4) sc__law_count.nd rfl (by first | exact Or.inl rfl | exact Or.inr rfl)) (pss_one (ps_if (pt_cmpR op_eq (pe_ix ix_str (pv 0) (pv 4) (fun _ _ => rfl)) (pv 3) (nomark _)) (pss_one (ps_asg (pe_op op_add (pe_ix ix_list (pv 2) (pe_op op_add (pv 4) pe_int) (fun _ _ => rfl)) (pe_ix ix_list (pv 2) (pv 4) (fun _ _ => rfl))) (pg_sub (pv 2) (pe_op op_add (pv 4) pe_int) set_list))) pss_nil))))) (pss_one (ps_ret (pe_ix ix_list (pv 2) (pe_callB call_len_str (by rfl) T.n_len (by decide +kernel) (pa_cons (pv 0) pa_nil)) (fun _ _ => rfl)))))), ?_⟩
    refine ⟨by show 1 ≤ sizeLine; decide, fun p1 n1 => ?_⟩
    refine ⟨by show 1 ≤ sizeLine; decide, fun p2 n2 => ?_⟩
    have d12 : p2 ≠ p1 := fun e => by rw [e, upd_same] at n2; cases n2
    refine ⟨_, rfl, mk u, rfl, by rw [mk_len]; exact sz_of (by omega), _, _, _, rfl, rfl, upd_same, by rw [mk_len]; omega, by rw [mk_len]; omega, by rw [mk_len]; exact sz_of (by simp; omega), fun p3 n3 => ?_⟩
    have d31 : p3 ≠ p1 := fun e => by rw [e, upd_ne d12.symm, upd_same] at n3; cases n3
    rw [mk_len, Int.toNat_natCast, rep_flat] at *
    refine ⟨p1, p3, _, _, rfl, rfl, by rw [upd_ne d31.symm, upd_ne d12.symm, upd_same], upd_same, by simp; exact sz_of (by omega), fun p n => ?_⟩
    have e0 : [V.int 1] ++ List.replicate u.length (V.int 0) = (Mx.row u []).map V.int := by
      rw [Mx.row_nil]
      simp
    rw [e0]
    have at0 : At H p (upd (upd (upd (upd H p1 (.lst [V.int 1])) p2 (.lst [V.int 0])) p3 (.lst (List.replicate u.length (V.int 0)))) p (.lst ((Mx.row u []).map V.int))) (Mx.row u []) := by
      have x1 : Ex H (upd H p1 (.lst [V.int 1])) := Ex.new n1
      have x2 := x1.trans (Ex.new n2 (o := .lst [V.int 0]))
      have x3 := x2.trans (Ex.new n3 (o := .lst (List.replicate u.length (V.int 0))))
      exact ⟨x3.trans (Ex.new n), fresh_back x3 n, upd_same⟩
    generalize (upd (upd (upd (upd H p1 (.lst [V.int 1])) p2 (.lst [V.int 0])) p3 (.lst (List.replicate u.length (V.int 0)))) p (.lst ((Mx.row u []).map V.int))) = H0 at at0 ⊢
    refine forS (l := t) (ev_var rfl) (fun i σ' H' => ∃ y3 y4, σ' = [some (tx u), some (tx t), some (.ref p), y3, y4] ∧ At H p H' (Mx.row u (t.take i))) (fun H1 e1 => ⟨_, _, rfl, at0.1.trans e1, at0.2.1, e1 _ _ at0.2.2⟩) (fun i c σ' H' hc hp => ?_) (fun σ' H' hp => ?_)
    · obtain ⟨y3, y4, rfl, a1, a2, a3⟩ := hp
      -- range(len(word) - 1, -1, -1)
      refine ⟨_, rfl, mk u, rfl, by rw [mk_len]; exact sz_of (by omega), _, 1, rfl, rfl, 0, 1, rfl, rfl, 0, 1, rfl, rfl, ?_⟩
      rw [mk_len]
      refine ⟨(u.length : Int) - 1, -1, -1, ((u.length : Int) - 1 + 1).toNat, rfl, rng_down (by omega) (by omega), ?_⟩
      have en : ((u.length : Int) - 1 + 1).toNat = u.length := by omega
      rw [en]
      refine for_rangeC (fun k σ' H' => ∃ y4, σ' = [some (tx u), some (tx t), some (.ref p), some (tx [c]), y4] ∧ At H p H' (Mx.mid u (t.take i) c k)) ⟨_, rfl, a1, a2, by rw [Mx.mid_zero]; exact a3⟩ (fun k σ' H' hku hp => ?_) (fun σ' H' hp => ?_)
      · obtain ⟨y4, rfl, b1, b2, b3⟩ := hp
        have hj : u.length - 1 - k < u.length := by omega
        have ej : (u.length : Int) - 1 + (k : Nat) * (-1) = ((u.length - 1 - k : Nat) : Int) := by omega
        rw [ej]
        refine ⟨_, rfl, _, rfl, mk u, _, u[u.length - 1 - k], rfl, rfl, by rw [mk_len]; exact sz_of (by omega), atI_nat (by rw [mk_list]; exact List.getElem?_eq_getElem hj), _, rfl, rfl, _, rfl, ?_⟩
        have turn := Mx.mid_turn u (t.take i) c k hku
        rw [List.getElem?_eq_getElem hj] at turn
        refine ite2 (fun h => ?_) (fun h => ?_)
        · have h1 : u[u.length - 1 - k] = c := by
            have := (tx_inj (l := [u[u.length - 1 - k]]) (m := [c])).mp (of_decide_eq_true h)
            simpa using this
          rw [if_pos (congrArg some h1)] at turn
          have g1 : atI ((Mx.mid u (t.take i) c k).map V.int) (((u.length - 1 - k : Nat) : Int) + 1) = some (.int ((Mx.cnt (u.take (u.length - k)) (t.take i) : Nat) : Int)) := by
            have e : ((u.length - 1 - k : Nat) : Int) + 1 = ((u.length - k : Nat) : Int) := by omega
            rw [e]
            refine atI_nat ?_
            rw [List.getElem?_map, Mx.mid_at _ _ _ _ _ (by omega), if_neg (by omega)]
            rfl
          have g2 : atI ((Mx.mid u (t.take i) c k).map V.int) ((u.length - 1 - k : Nat) : Int) = some (.int ((Mx.cnt (u.take (u.length - 1 - k)) (t.take i) : Nat) : Int)) := by
            refine atI_nat ?_
            rw [List.getElem?_map, Mx.mid_at _ _ _ _ _ (by omega), if_neg (by omega)]
            rfl
          refine ⟨_, rfl, _, rfl, _, 1, rfl, rfl, p, _, _, _, rfl, rfl, .inl (.inl b3), g1, _, rfl, _, rfl, p, _, _, _, rfl, rfl, .inl (.inl b3), g2, _, _, rfl, rfl, ?_⟩
          refine ⟨_, rfl, _, rfl, _, 1, rfl, rfl, p, _, _, u.length - k, rfl, rfl, b3, ?_, ?_⟩
          · have e : ((u.length - 1 - k : Nat) : Int) + 1 = ((u.length - k : Nat) : Int) := by omega
            rw [e]
            exact ixN_nat (by rw [List.length_map, Mx.mid_len]; omega)
          · refine ⟨_, rfl, Ex.mut b1 b2, b2, ?_⟩
            rw [upd_same, turn, List.map_set]
        · have h1 : ¬ u[u.length - 1 - k] = c := fun z => h (decide_eq_true (by rw [z]))
          rw [if_neg (fun z => h1 (Option.some.inj z))] at turn
          exact ⟨_, rfl, b1, b2, by rw [turn]; exact b3⟩
      · obtain ⟨y4, rfl, b1, b2, b3⟩ := hp
        refine ⟨_, _, rfl, b1, b2, ?_⟩
        have e : t.take (i + 1) = t.take i ++ [c] := by
          rw [List.take_add_one, hc]
          rfl
        rw [e, ← Mx.mid_all]
        exact b3
    · obtain ⟨y3, y4, rfl, a1, a2, a3⟩ := hp
      rw [List.take_of_length_le (Nat.le_refl _)] at a3
      refine ⟨_, rfl, _, rfl, mk u, rfl, by rw [mk_len]; exact sz_of (by omega), p, _, _, _, rfl, rfl, .inl (.inl a3), ?_, q _ a1⟩
      rw [mk_len]
      refine atI_nat ?_
      rw [List.getElem?_map, Mx.row_at _ _ _ (Nat.le_refl _), List.take_of_length_le (Nat.le_refl _)]
      rfl
end
end K05
set_option Elab.async false
set_option linter.all false
set_option maxRecDepth 100000
set_option maxHeartbeats 4000000
namespace Bx
open PySem PySem.Spec PyProof.Rows L2 Evl
theorem fold_rep (a : List Nat) : ∀ (k : Nat) (acc : Array Nat), (List.replicate k a.toArray).foldl (· ++ ·) acc = (acc.toList ++ (List.replicate k a).flatten).toArray
  | 0, acc => by simp
  | k + 1, acc => by
    rw [List.replicate_succ, List.foldl_cons, fold_rep a k, List.replicate_succ, List.flatten_cons]
    simp
theorem mul_mk (l : List Nat) (k : Nat) : Txt.mul (mk l) (k : Nat) = mk (List.replicate k l).flatten := by
  unfold Txt.mul
  by_cases h : (k : Int) < 1
  · have e : k = 0 := by omega
    subst e
    rfl
  · rw [if_neg h]
    split
    · rename_i c
      rw [Bool.or_eq_true, beq_iff_eq, beq_iff_eq] at c
      rcases c with c | c
      · have e : k = 1 := by omega
        subst e
        simp
      · have e : l = [] := List.eq_nil_of_length_eq_zero (by rw [mk_len] at c; exact c)
        subst e
        have : ∀ k, (List.replicate k ([] : List Nat)).flatten = [] := by
          intro k
          induction k with
          | zero => rfl
          | succ k ih => rw [List.replicate_succ, List.flatten_cons, ih]; rfl
        rw [this]
    · rw [Int.toNat_natCast, fold_rep]
      rfl
/-- x * k of a text -/
def rRepS : R2 := fun x y H Q => ∃ (l : List Nat) (k : Nat), x = tx l ∧ y = .int (k : Nat) ∧ l.length * k ≤ 100000 ∧ k ≤ 100000 ∧ Q (tx (List.replicate k l).flatten) H
theorem op_repS {X : Cx} : OpR X (binaryOp .Mult) rRepS := by
  intro pins s σ H x y v u Q I rx ry h
  obtain ⟨l, k, rfl, rfl, h1, h2, q⟩ := h
  obtain ⟨t, rfl⟩ := rx
  obtain ⟨t', rfl⟩ := ry
  have ok : MulOk (mk l) (k : Nat) := by
    refine ⟨?_, fun a b => ?_, fun a b => ?_⟩
    · rw [decide_eq_false (by omega), decide_eq_false (by omega)]
      rfl
    · rw [mk_len]
      have hp : (0 : Int) < (k : Nat) := by omega
      have q1 : ((l.length : Int)) * (k : Nat) ≤ 2 ^ 63 - 1 := by
        have : ((l.length * k : Nat) : Int) ≤ 100000 := by omega
        rw [Int.natCast_mul] at this
        omega
      have := Int.le_ediv_of_mul_le hp q1
      omega
    · rw [mk_len, Int.toNat_natCast]
      show decide (_ > sizeLine) = false
      refine decide_eq_false ?_
      have : sizeLine ≥ 100000 := by decide
      omega
  refine SB.mul ok fun t2 k2 => ⟨.str (Txt.mul (mk l) (k : Nat)), H, I.tok _, ⟨t2, rfl⟩, ?_⟩
  rw [mul_mk]
  exact q
/-- the last places of a text, whether or not it has any -/
theorem cut_last (u : List Nat) : cutS (mk u) (some ((u.length : Int) - 1)) none = mk (u.drop (u.length - 1)) := by
  by_cases h : u = []
  · subst h
    rfl
  · have hl := List.length_pos_iff.mpr h
    have e : (u.length : Int) - 1 = ((u.length - 1 : Nat) : Int) := by omega
    rw [e, cut_from]
theorem cut_init (u : List Nat) : cutS (mk u) none (some ((u.length : Int) - 1)) = mk (u.take (u.length - 1)) := by
  by_cases h : u = []
  · subst h
    rfl
  · have hl := List.length_pos_iff.mpr h
    have e : (u.length : Int) - 1 = ((u.length - 1 : Nat) : Int) := by omega
    rw [e, cut_to]
theorem rep_two (c : Nat) : (List.replicate 2 [c]).flatten = [c, c] := rfl
end Bx
namespace Bx
open PySem PySem.Spec PyProof.Rows L2 Evl
/-- all but one object as before, and that one still there -/
def Xh (g : Addr) (H H' : Hp) : Prop := Xg g H H' ∧ H' g ≠ none
theorem Xh.ex {g : Addr} {H H1 H2 : Hp} (a : Xh g H H1) (b : Ex H1 H2) : Xh g H H2 := ⟨a.1.ex b, fun z => by
  cases q : H1 g with
  | none => exact a.2 q
  | some o =>
    rw [b g o q] at z
    cases z⟩
theorem Xh.mut {g : Addr} {H H' : Hp} {p : Addr} {o : HO} (e : Xh g H H') (h : H p = none) : Xh g H (L2.upd H' p o) := ⟨e.1.mut h, fun z => by
  by_cases q : g = p
  · rw [q, upd_same] at z
    cases z
  · rw [upd_ne q] at z
    exact e.2 z⟩
theorem Xh.fresh {g : Addr} {H H' : Hp} (e : Xh g H H') {p : Addr} (h : H' p = none) : H p = none := e.1.fresh e.2 h
theorem Xg.gen {g : Addr} {H H' : Hp} {n : Nat} (e : Xg g H H') (h : Gen H' g n) : Xh g H H' := ⟨e, h.there⟩
end Bx
set_option Elab.async false
set_option linter.all false
set_option maxRecDepth 100000
set_option maxHeartbeats 4000000
namespace K05
open PySem PySem.Spec PyProof.Rows L2 Evl Bx
section
variable {P : Program} {w : World} {K : PySem.W.Frag} {mg : Str → Option Value} {base : Heap}
def sp__law_grown (K : PySem.W.Frag) : Sp := fun vs H Q _ => ∃ a k : Nat, vs = [.int (a : Nat), .int (k : Nat)] ∧ a ≤ 26 ∧ k ≤ 500 ∧ Q (.int ((a ^ k : Nat) : Int)) H
theorem ok__law_grown (T : Tx K mg) : FnOk P w K mg base CX0 1 T.a__law_grown T.fd__law_grown ["_law_number", "_law_times"] (sp__law_grown K) := by
  refine T.F__law_grown.ok sc__law_grown (fun vs H Q E h => ?_) (fun cdv A outer s H vs Q E hr h => ?_)
  · obtain ⟨_, _, rfl, _⟩ := h
    rfl
  · obtain ⟨a, k, rfl, a1, k1, q⟩ := h
    refine ⟨_, (pss_cons (ps_set (i := 2) sc__law_grown.nd rfl (by first | exact Or.inl rfl | exact Or.inr rfl) pe_int) (pss_cons (ps_for PassesOwn.never rfl (pi_range1 (by rfl) T.n_range (pa_cons (pv 1) pa_nil)) (pg_name (i := 3) sc__law_grown.nd rfl (by first | exact Or.inl rfl | exact Or.inr rfl)) (pss_one (ps_set (i := 2) sc__law_grown.nd rfl (by first | exact Or.inl rfl | exact Or.inr rfl) (pe_op op_mulW (pv 2) (pv 0))))) (pss_one (ps_ret (pv 2))))), ?_⟩
    refine ⟨_, rfl, (k : Nat), rfl, by omega, by omega, ?_⟩
    rw [Int.toNat_natCast]
    refine for_range (lo := 0) (n := k) (fun i σ H2 => ∃ y, σ = [some (.int (a : Nat)), some (.int (k : Nat)), some (.int ((a ^ i : Nat) : Int)), y] ∧ H2 = H) ⟨none, rfl, rfl⟩ (fun i σ H2 hi hp => ?_) (fun σ H2 hp => ?_)
    · obtain ⟨y, rfl, rfl⟩ := hp
      refine ⟨_, rfl, _, rfl, _, _, rfl, rfl, mul_ok (abs_nat (pow_lt a i a1 (by omega))) (abs_nat (small_pow (by omega))), some (.int (0 + (i : Int))), ?_, rfl⟩
      rw [Nat.pow_succ, Int.natCast_mul]
      rfl
    · obtain ⟨y, rfl, rfl⟩ := hp
      exact ⟨_, rfl, q⟩
def sp__law_cut_sum (K : PySem.W.Frag) : Sp := fun vs H Q _ => ∃ u s t, vs = [tx u, tx s, tx t] ∧ Low u ∧ Low s ∧ Low t ∧ u.length ≤ 500 ∧ s.length ≤ 500 ∧ t.length ≤ 500 ∧ ∀ H', Ex H H' → Q (.int ((Mx.cnt u (s ++ t) : Nat) : Int)) H'
theorem cnt_abs (u t : List Nat) (h : t.length ≤ 1000) : ((Mx.cnt u t : Nat) : Int).natAbs < 2 ^ 9000 := abs_nat (Nat.lt_of_le_of_lt (Mx.cnt_le t u) (Nat.pow_lt_pow_right (by decide) (by omega)))
theorem ok__law_cut_sum (T : Tx K mg) : FnOk P w K mg base CX0 4 T.a__law_cut_sum T.fd__law_cut_sum ["_law_word", "_law_one", "_law_other"] (sp__law_cut_sum K) := by
  refine T.F__law_cut_sum.ok sc__law_cut_sum (fun vs H Q E h => ?_) (fun cdv A outer s H vs Q E hr h => ?_)
  · obtain ⟨_, _, _, rfl, _⟩ := h
    rfl
  · obtain ⟨u, s1, t, rfl, hu, hs, ht, lu, ls, lt, q⟩ := h
    refine ⟨_, (pss_one (ps_ret (pe_callB (cr_sum rfl) (by rfl) T.n_sum (by decide +kernel) (pa_cons (pe_lc (own := [("_law_at", 3)]) (g := (gName 3)) (tt := tYes) rfl sc__law_cut_sum.nd (pi_range1 (by rfl) T.n_range (pa_cons (pe_op op_add (pe_callB call_len_str (by rfl) T.n_len (by decide +kernel) (pa_cons (pv 0) pa_nil)) pe_int) pa_nil)) (blkOk_by (own := [("_law_at", 3)]) (N := N__law_cut_sum) (sc := defScope s__law_cut_sum) (by decide +kernel)) (fun _ _ _ _ _ => (pg_name (i := 3) sc__law_cut_sum.nd rfl (by first | exact Or.inl rfl | exact Or.inr rfl))) (fun _ _ _ _ _ => pts_nil) (fun _ _ _ _ _ => (pe_op op_mulW (pe_call (ok_count T) (hr.mono (by decide)) (by rfl) T.g_count T.F_count.kp (b_count T) .nil pass0 (pa_cons (pe_slice sl_str (pv 0) po_none (po_some (pv 3))) (pa_cons (pv 1) pa_nil))) (pe_call (ok_count T) (hr.mono (by decide)) (by rfl) T.g_count T.F_count.kp (b_count T) .nil pass0 (pa_cons (pe_slice sl_str (pv 0) (po_some (pv 3)) po_none) (pa_cons (pv 2) pa_nil)))))) pa_nil)))), ?_⟩
    refine ⟨_, rfl, mk u, rfl, by rw [mk_len]; exact sz_of (by omega), _, 1, rfl, rfl, _, rfl, by rw [mk_len]; omega, by rw [mk_len]; omega, fun D nD => ?_⟩
    rw [mk_len]
    have en : ((u.length : Int) + 1).toNat = u.length + 1 := by omega
    show ∃ W : Nat → Nat → Hp → Prop, _
    rw [en]
    refine lc_range (lo := 0) (n := u.length + 1) (fun i H2 => Ex H H2 ∧ H2 D = some (.lst (((List.range i).map fun k => ((Mx.cnt (u.take k) s1 : Nat) : Int) * ((Mx.cnt (u.drop k) t : Nat) : Int)).map V.int))) ⟨Ex.new nD, upd_same⟩ (fun i H2 hi hp => ?_) (fun H2 hp => ?_)
    · obtain ⟨e1, hD⟩ := hp
      refine ⟨rfl, ?_⟩
      have e0 : (0 : Int) + (i : Nat) = (i : Nat) := Int.zero_add _
      refine ⟨_, rfl, _, rfl, _, rfl, mk u, rfl, by rw [mk_len]; exact sz_of (by omega), ?_⟩
      rw [e0, cut_to]
      refine ⟨_, rfl, u.take i, s1, rfl, hu.sub fun c hc => List.mem_of_mem_take hc, hs, by rw [List.length_take]; omega, by omega, fun H3 e3 => ?_⟩
      refine ⟨_, rfl, _, rfl, _, rfl, mk u, rfl, by rw [mk_len]; exact sz_of (by omega), ?_⟩
      rw [cut_from]
      refine ⟨_, rfl, u.drop i, t, rfl, hu.sub fun c hc => List.mem_of_mem_drop hc, ht, by rw [List.length_drop]; omega, by omega, fun H4 e4 => ?_⟩
      refine ⟨_, _, rfl, rfl, mul_ok (cnt_abs _ _ (by omega)) (cnt_abs _ _ (by omega)), _, e4 _ _ (e3 _ _ hD), ?_, Ex.mut (e1.trans (e3.trans e4)) nD, ?_⟩
      · rw [List.length_map, List.length_map, List.length_range]
        exact sz_lt (by omega)
      · rw [upd_same, List.range_succ, List.map_append, List.map_append]
        rfl
    · obtain ⟨e1, hD⟩ := hp
      refine ⟨D, _, rfl, .inl (.inl hD), ?_⟩
      rw [← Mx.cnt_cuts]
      exact q H2 e1
end
end K05
set_option Elab.async false
set_option linter.all false
set_option maxRecDepth 100000
set_option maxHeartbeats 8000000
namespace K05
open PySem PySem.Spec PyProof.Rows L2 Evl Bx
section
variable {P : Program} {w : World} {K : PySem.W.Frag} {mg : Str → Option Value} {base : Heap}
def sp__law_right (K : PySem.W.Frag) : Sp := fun vs H Q _ => ∃ (g : Addr) (n : Nat), vs = [.ref g] ∧ Gen H g n ∧ n ≤ 2 ^ 30 ∧ ∀ H', Xg g H H' → Q (.bl true) H'
theorem flat_map1 (t : List Nat) (f : Nat → List Nat) : ((t.map f).map mk).map V.str = t.map fun c => tx (f c) := by
  rw [List.map_map, List.map_map]
  rfl
theorem ok__law_right (T : Tx K mg) : FnOk P w K mg base CX0 5 T.a__law_right T.fd__law_right ["_law_generator_here"] (sp__law_right K) := by
  refine T.F__law_right.ok sc__law_right (fun vs H Q E h => ?_) (fun cdv A outer s H vs Q E hr h => ?_)
  · obtain ⟨_, _, rfl, _⟩ := h
    rfl
  · obtain ⟨g, n, rfl, gn, n1, q⟩ := h
    refine ⟨_, (pss_cons (ps_set (i := 1) sc__law_right.nd rfl (by first | exact Or.inl rfl | exact Or.inr rfl) (pe_call (ok__law_alphabet T) (hr.mono (by decide)) (by rfl) T.g__law_alphabet T.F__law_alphabet.kp (b__law_alphabet T) .nil pass0 (pa_cons (pv 0) (pa_cons pe_int pa_nil)))) (pss_cons (ps_set (i := 2) sc__law_right.nd rfl (by first | exact Or.inl rfl | exact Or.inr rfl) (pe_call (ok__law_text T) (hr.mono (by decide)) (by rfl) T.g__law_text T.F__law_text.kp (b__law_text T) .nil pass0 (pa_cons (pv 0) (pa_cons (pv 1) (pa_cons (pe_call (ok__law_random T) (hr.mono (by decide)) (by rfl) T.g__law_random T.F__law_random.kp (b__law_random T) .nil pass0 (pa_cons (pv 0) (pa_cons pe_int pa_nil))) pa_nil))))) (pss_cons (ps_set (i := 3) sc__law_right.nd rfl (by first | exact Or.inl rfl | exact Or.inr rfl) (pe_call (ok__law_text T) (hr.mono (by decide)) (by rfl) T.g__law_text T.F__law_text.kp (b__law_text T) .nil pass0 (pa_cons (pv 0) (pa_cons (pv 1) (pa_cons (pe_call (ok__law_random T) (hr.mono (by decide)) (by rfl) T.g__law_random T.F__law_random.kp (b__law_random T) .nil pass0 (pa_cons (pv 0) (pa_cons pe_int pa_nil))) pa_nil))))) (pss_cons (ps_set (i := 4) sc__law_right.nd rfl (by first | exact Or.inl rfl | exact Or.inr rfl) (pe_call (ok__law_text T) (hr.mono (by decide)) (by rfl) T.g__law_text T.F__law_text.kp (b__law_text T) .nil pass0 (pa_cons (pv 0) (pa_cons (pv 1) (pa_cons (pe_call (ok__law_random T) (hr.mono (by decide)) (by rfl) T.g__law_random T.F__law_random.kp (b__law_random T) .nil pass0 (pa_cons (pv 0) (pa_cons pe_int pa_nil))) pa_nil))))) (pss_cons (ps_set (i := 5) sc__law_right.nd rfl (by first | exact Or.inl rfl | exact Or.inr rfl) (pe_call (ok_count T) (hr.mono (by decide)) (by rfl) T.g_count T.F_count.kp (b_count T) .nil pass0 (pa_cons (pv 4) (pa_cons (pe_op op_add_str (pv 2) (pv 3)) pa_nil)))) (pss_cons (ps_if (PW.pt (pw_or (pt_cmpR op_ne (pv 5) (pe_call (ok__law_count T) (hr.mono (by decide)) (by rfl) T.g__law_count T.F__law_count.kp (b__law_count T) .nil pass0 (pa_cons (pv 4) (pa_cons (pe_op op_add_str (pv 2) (pv 3)) pa_nil))) (nomark _)) (pw_or1 (pt_cmpR op_ne (pv 5) (pe_call (ok__law_cut_sum T) (hr.mono (by decide)) (by rfl) T.g__law_cut_sum T.F__law_cut_sum.kp (b__law_cut_sum T) .nil pass0 (pa_cons (pv 4) (pa_cons (pv 2) (pa_cons (pv 3) pa_nil)))) (nomark _))))) (pss_one (ps_ret pe_bl)) pss_nil) (pss_cons (ps_if (pt_cmpR op_ne (pe_call (ok_count T) (hr.mono (by decide)) (by rfl) T.g_count T.F_count.kp (b_count T) .nil pass0 (pa_cons (Rx.pe_revS (pv 4) (po_some (pe_op op_sub pe_int pe_int))) (pa_cons (Rx.pe_revS (pe_op op_add_str (pv 2) (pv 3)) (po_some (pe_op op_sub pe_int pe_int))) pa_nil))) (pv 5) (nomark _)) (pss_one (ps_ret pe_bl)) pss_nil) (pss_cons (ps_for PassesOwn.never rfl (pi_str (pv 1)) (pg_name (i := 6) sc__law_right.nd rfl (by first | exact Or.inl rfl | exact Or.inr rfl)) (pss_cons (ps_set (i := 7) sc__law_right.nd rfl (by first | exact Or.inl rfl | exact Or.inr rfl) (pe_ifExp (pt_cmpR op_eq (pe_slice sl_str (pv 4) (po_some (pe_op op_sub (pe_callB call_len_str (by rfl) T.n_len (by decide +kernel) (pa_cons (pv 4) pa_nil)) pe_int)) po_none) (pv 6) (nomark _)) (pe_call (ok_count T) (hr.mono (by decide)) (by rfl) T.g_count T.F_count.kp (b_count T) .nil pass0 (pa_cons (pe_slice sl_str (pv 4) po_none (po_some (pe_op op_sub (pe_callB call_len_str (by rfl) T.n_len (by decide +kernel) (pa_cons (pv 4) pa_nil)) pe_int))) (pa_cons (pv 3) pa_nil))) pe_int)) (pss_cons (ps_set (i := 8) sc__law_right.nd rfl (by first | exact Or.inl rfl | exact Or.inr rfl) (pe_ifExp (pt_cmpR op_eq (pe_slice sl_str (pv 4) po_none (po_some pe_int)) (pv 6) (nomark _)) (pe_call (ok_count T) (hr.mono (by decide)) (by rfl) T.g_count T.F_count.kp (b_count T) .nil pass0 (pa_cons (pe_slice sl_str (pv 4) (po_some pe_int) po_none) (pa_cons (pv 3) pa_nil))) pe_int)) (pss_cons (ps_if (pt_cmpR op_ne (pe_call (ok_count T) (hr.mono (by decide)) (by rfl) T.g_count T.F_count.kp (b_count T) .nil pass0 (pa_cons (pv 4) (pa_cons (pe_op op_add_str (pv 3) (pv 6)) pa_nil))) (pe_op op_add (pe_call (ok_count T) (hr.mono (by decide)) (by rfl) T.g_count T.F_count.kp (b_count T) .nil pass0 (pa_cons (pv 4) (pa_cons (pv 3) pa_nil))) (pv 7)) (nomark _)) (pss_one (ps_ret pe_bl)) pss_nil) (pss_one (ps_if (pt_cmpR op_ne (pe_call (ok_count T) (hr.mono (by decide)) (by rfl) T.g_count T.F_count.kp (b_count T) .nil pass0 (pa_cons (pv 4) (pa_cons (pe_op op_add_str (pv 6) (pv 3)) pa_nil))) (pe_op op_add (pe_call (ok_count T) (hr.mono (by decide)) (by rfl) T.g_count T.F_count.kp (b_count T) .nil pass0 (pa_cons (pv 4) (pa_cons (pv 3) pa_nil))) (pv 8)) (nomark _)) (pss_one (ps_ret pe_bl)) pss_nil)))))) (pss_cons (ps_if (pt_cmpR op_ne (pe_call (ok_count T) (hr.mono (by decide)) (by rfl) T.g_count T.F_count.kp (b_count T) .nil pass0 (pa_cons (pv 4) (pa_cons (pe_join pe_str (pe_lc (own := [("_law_letter", 6)]) (g := (gName 6))  rfl sc__law_right.nd (pi_str (pv 2)) (blkOk_by (own := [("_law_letter", 6)]) (N := N__law_right) (sc := defScope s__law_right) (by decide +kernel)) (fun _ _ _ _ _ => (pg_name (i := 6) sc__law_right.nd rfl (by first | exact Or.inl rfl | exact Or.inr rfl))) (fun _ _ _ _ _ => (pts_one (pt_cmpR op_in_sign (pv 6) (pv 4) rfl))) (fun _ _ _ _ _ => (pv 6)))) pa_nil))) (pe_call (ok_count T) (hr.mono (by decide)) (by rfl) T.g_count T.F_count.kp (b_count T) .nil pass0 (pa_cons (pv 4) (pa_cons (pv 2) pa_nil))) (nomark _)) (pss_one (ps_ret pe_bl)) pss_nil) (pss_cons (ps_set (i := 9) sc__law_right.nd rfl (by first | exact Or.inl rfl | exact Or.inr rfl) (pe_slice sl_str (pv 4) po_none (po_some pe_int))) (pss_cons (ps_if (pt_cmpR op_ne (pe_callB Sx.cr_lenT (by rfl) T.n_len (by decide +kernel) (pa_cons (pe_callTy (Sx.cr_setS rfl) (by rfl) T.n_set (by decide +kernel) (pa_cons (pv 9) pa_nil)) pa_nil)) (pe_callB call_len_str (by rfl) T.n_len (by decide +kernel) (pa_cons (pv 9) pa_nil)) (nomark _)) (pss_one (ps_ret pe_bl)) pss_nil) (pss_one (ps_ret (pe_cmpR op_eq (pe_call (ok_count T) (hr.mono (by decide)) (by rfl) T.g_count T.F_count.kp (b_count T) .nil pass0 (pa_cons (pv 9) (pa_cons (pe_join pe_str (pe_lc (own := [("_law_letter", 6)]) (g := (gName 6)) (tt := tYes) rfl sc__law_right.nd (pi_str (pv 2)) (blkOk_by (own := [("_law_letter", 6)]) (N := N__law_right) (sc := defScope s__law_right) (by decide +kernel)) (fun _ _ _ _ _ => (pg_name (i := 6) sc__law_right.nd rfl (by first | exact Or.inl rfl | exact Or.inr rfl))) (fun _ _ _ _ _ => pts_nil) (fun _ _ _ _ _ => (pe_op Bx.op_repS (pv 6) pe_int)))) pa_nil))) (pe_op op_mulW (pe_call (ok__law_grown T) (hr.mono (by decide)) (by rfl) T.g__law_grown T.F__law_grown.kp (b__law_grown T) .nil pass0 (pa_cons pe_int (pa_cons (pe_callB call_len_str (by rfl) T.n_len (by decide +kernel) (pa_cons (pv 9) pa_nil)) pa_nil))) (pe_call (ok_count T) (hr.mono (by decide)) (by rfl) T.g_count T.F_count.kp (b_count T) .nil pass0 (pa_cons (pv 9) (pa_cons (pv 2) pa_nil)))) (nomark _))))))))))))))), ?_⟩
    -- the alphabet and the three texts
    refine ⟨_, rfl, g, 2, n, rfl, by decide, by decide, gn, by omega, fun L H1 aL hL x1 g1 => ?_⟩
    refine ⟨_, rfl, _, rfl, _, rfl, g, 151, _, rfl, by decide, by decide, g1, by omega, fun r H2 r0 r1 x2 g2 => ?_⟩
    obtain ⟨m1, rfl⟩ := Int.eq_ofNat_of_zero_le r0
    refine ⟨g, L, m1, _, rfl, by omega, by have := aL.four; omega, by omega, g2, by omega, fun s1 H3 l1 c1 x3 g3 => ?_⟩
    refine ⟨_, rfl, _, rfl, _, rfl, g, 150, _, rfl, by decide, by decide, g3, by omega, fun r H4 r0 r1 x4 g4 => ?_⟩
    obtain ⟨m2, rfl⟩ := Int.eq_ofNat_of_zero_le r0
    refine ⟨g, L, m2, _, rfl, by omega, by have := aL.four; omega, by omega, g4, by omega, fun s2 H5 l2 c2 x5 g5 => ?_⟩
    refine ⟨_, rfl, _, rfl, _, rfl, g, 9, _, rfl, by decide, by decide, g5, by omega, fun r H6 r0 r1 x6 g6 => ?_⟩
    obtain ⟨m3, rfl⟩ := Int.eq_ofNat_of_zero_le r0
    refine ⟨g, L, m3, _, rfl, by omega, by have := aL.four; omega, by omega, g6, by omega, fun u H7 l3 c3 x7 g7 => ?_⟩
    have lows : ∀ t : List Nat, (∀ c ∈ t, c ∈ L) → Low t := fun t h c hc => aL.low c (h c hc)
    have w1 := lows s1 c1
    have w2 := lows s2 c2
    have w3 := lows u c3
    have w12 := w1.app w2
    have z1 : s1.length ≤ 151 := by omega
    have z2 : s2.length ≤ 150 := by omega
    have z3 : u.length ≤ 9 := by omega
    have z12 : (s1 ++ s2).length ≤ 301 := by rw [List.length_append]; omega
    -- told
    have fit : (mk s1).length + (mk s2).length ≤ sizeLine := by rw [mk_len, mk_len]; exact sz_of (by omega)
    refine ⟨_, rfl, _, rfl, _, rfl, _, _, rfl, rfl, fit, ?_⟩
    rw [mk_app]
    refine ⟨u, s1 ++ s2, rfl, w3, w12, by omega, by omega, fun H8 e8 => ?_⟩
    -- told != the law's count, told != the cut sum
    refine ⟨_, rfl, _, rfl, _, rfl, _, rfl, _, _, rfl, rfl, fit, ?_⟩
    rw [mk_app]
    refine ⟨u, s1 ++ s2, rfl, by omega, by omega, fun H9 e9 => ?_⟩
    refine ⟨rfl, _, rfl, iteNS rfl ?_⟩
    refine ⟨_, rfl, _, rfl, _, rfl, _, rfl, u, s1, s2, rfl, w3, w1, w2, by omega, by omega, by omega, fun H10 e10 => ?_⟩
    refine ⟨rfl, _, rfl, iteNS rfl ?_⟩
    -- turned about
    refine ⟨_, rfl, 0, 1, rfl, rfl, _, rfl, mk u, rfl, rfl, by rw [mk_len]; omega, ?_⟩
    refine ⟨_, rfl, _, rfl, _, _, rfl, rfl, fit, ?_⟩
    rw [mk_app]
    refine ⟨0, 1, rfl, rfl, _, rfl, mk (s1 ++ s2), rfl, rfl, by rw [mk_len]; omega, ?_⟩
    rw [turned_mk, turned_mk]
    refine ⟨u.reverse, (s1 ++ s2).reverse, rfl, w3.sub fun c hc => List.mem_reverse.mp hc, w12.sub fun c hc => List.mem_reverse.mp hc, by rw [List.length_reverse]; omega, by rw [List.length_reverse]; omega, fun H11 e11 => ?_⟩
    rw [Mx.cnt_rev]
    refine ⟨_, rfl, rfl, _, rfl, iteNS rfl ?_⟩
    -- for letter in letters
    have xk : Xh g H H11 := ((((((((x1.trans x2).trans x3).trans x4).trans x5).trans x6).trans x7).gen g7).ex (e8.trans (e9.trans e10))).ex e11
    refine forS (l := L) (ev_var rfl) (fun i σ H' => ∃ y6 y7 y8 y9, σ = [some (.ref g), some (tx L), some (tx s1), some (tx s2), some (tx u), some (.int ((Mx.cnt u (s1 ++ s2) : Nat) : Int)), y6, y7, y8, y9] ∧ Xh g H H') (fun Ha ea => ⟨_, _, _, _, rfl, xk.ex ea⟩) (fun i c σ H12 hc hp => ?_) (fun σ H12 hp => ?_)
    · obtain ⟨y6, y7, y8, y9, rfl, xq⟩ := hp
      have hcL : c ∈ L := List.mem_of_getElem? hc
      have lc : Low [c] := fun x hx => by
        rw [List.mem_singleton] at hx
        rw [hx]
        exact aL.low c hcL
      have lu' : (mk u).length ≤ sizeLine := by rw [mk_len]; exact sz_of (by omega)
      -- behind
      refine q_asg (v := .int (((if u.drop (u.length - 1) = [c] then Mx.cnt (u.take (u.length - 1)) s2 else 0) : Nat) : Int)) (fun Ha _ Qa qa => ?_) fun Hm em => ?_
      · refine ⟨_, rfl, _, rfl, mk u, rfl, lu', _, 1, rfl, rfl, _, rfl, mk u, rfl, lu', ?_⟩
        rw [mk_len, cut_last]
        refine ⟨_, rfl, rfl, _, rfl, ite2 (fun h => ?_) (fun h => ?_)⟩
        · have h1 := (tx_inj (l := u.drop (u.length - 1)) (m := [c])).mp (of_decide_eq_true h)
          rw [if_pos h1] at qa
          refine ⟨_, rfl, _, rfl, mk u, rfl, lu', _, 1, rfl, rfl, _, rfl, mk u, rfl, lu', ?_⟩
          rw [mk_len, cut_init]
          exact ⟨_, rfl, u.take (u.length - 1), s2, rfl, w3.sub fun c hc => List.mem_of_mem_take hc, w2, by rw [List.length_take]; omega, by omega, fun Hb eb => qa Hb eb⟩
        · have h1 : ¬ u.drop (u.length - 1) = [c] := fun z => h (decide_eq_true (by rw [z]))
          rw [if_neg h1] at qa
          exact qa _ (Ex.refl _)
      -- ahead
      refine q_asg (v := .int (((if u.take 1 = [c] then Mx.cnt (u.drop 1) s2 else 0) : Nat) : Int)) (fun Ha _ Qa qa => ?_) fun Hn' en => ?_
      · have c1 : cutS (mk u) none (some (1 : Int)) = mk (u.take 1) := cut_to u 1
        have c2 : cutS (mk u) (some (1 : Int)) none = mk (u.drop 1) := cut_from u 1
        refine ⟨_, rfl, 1, rfl, mk u, rfl, lu', ?_⟩
        rw [c1]
        refine ⟨_, rfl, rfl, _, rfl, ite2 (fun h => ?_) (fun h => ?_)⟩
        · have h1 := (tx_inj (l := u.take 1) (m := [c])).mp (of_decide_eq_true h)
          rw [if_pos h1] at qa
          refine ⟨_, rfl, 1, rfl, mk u, rfl, lu', ?_⟩
          rw [c2]
          exact ⟨_, rfl, u.drop 1, s2, rfl, w3.sub fun c hc => List.mem_of_mem_drop hc, w2, by rw [List.length_drop]; omega, by omega, fun Hb eb => qa Hb eb⟩
        · have h1 : ¬ u.take 1 = [c] := fun z => h (decide_eq_true (by rw [z]))
          rw [if_neg h1] at qa
          exact qa _ (Ex.refl _)
      -- a letter more behind, a letter more ahead
      have fit2 : (mk s2).length + (mk [c]).length ≤ sizeLine := by rw [mk_len, mk_len]; exact sz_of (by rw [List.length_singleton]; omega)
      have fit3 : (mk [c]).length + (mk s2).length ≤ sizeLine := by rw [mk_len, mk_len]; exact sz_of (by rw [List.length_singleton]; omega)
      refine ⟨_, rfl, _, rfl, _, rfl, _, _, rfl, rfl, fit2, ?_⟩
      rw [mk_app]
      refine ⟨u, s2 ++ [c], rfl, w3, w2.app lc, by omega, by rw [List.length_append, List.length_singleton]; omega, fun Hb eb => ?_⟩
      refine ⟨_, rfl, _, rfl, u, s2, rfl, w3, w2, by omega, by omega, fun Hc ec => ?_⟩
      refine ⟨_, rfl, _, _, rfl, rfl, rfl, _, rfl, iteNS ?_ ?_⟩
      · rw [Mx.cnt_back, Int.natCast_add]
      refine ⟨_, rfl, _, rfl, _, rfl, _, _, rfl, rfl, fit3, ?_⟩
      rw [mk_app]
      refine ⟨u, [c] ++ s2, rfl, w3, lc.app w2, by omega, by rw [List.length_append, List.length_singleton]; omega, fun Hd ed => ?_⟩
      refine ⟨_, rfl, _, rfl, u, s2, rfl, w3, w2, by omega, by omega, fun He ee => ?_⟩
      refine ⟨_, rfl, _, _, rfl, rfl, rfl, _, rfl, iteNS ?_ ?_⟩
      · show V.int ((Mx.cnt u (c :: s2) : Nat) : Int) = _
        rw [Mx.cnt_front, Int.natCast_add]
      exact ⟨_, _, _, _, rfl, xq.ex (em.trans (en.trans (eb.trans (ec.trans (ed.trans ee)))))⟩
    · obtain ⟨y6, y7, y8, y9, rfl, xq⟩ := hp
      -- letters that the word has not may go
      refine ⟨_, rfl, ⟨_, rfl⟩, _, rfl, mk s1, rfl, fun D nD => ?_⟩
      have fD : H D = none := xq.fresh nD
      refine lc_it (walk_str (z := mk s1)) (fun i H' => H' D = some (.lst ((((s1.take i).filter fun c => decide (c ∈ u)).map fun c => mk [c]).map V.str)) ∧ Xh g H H') ⟨upd_same, xq.mut fD⟩ (fun _ _ _ _ => trivial) (fun i x Ha Hb hi hp y => ?_) (fun Ha hp => ?_)
      · obtain ⟨rfl, c, hc, rfl⟩ := y
        have hc' : s1[i]? = some c := by rw [← hc]; simp
        refine ⟨rfl, ?_⟩
        refine ⟨_, rfl, _, rfl, c, mk u, rfl, rfl, _, rfl, ?_⟩
        have et : s1.take (i + 1) = s1.take i ++ [c] := by
          rw [List.take_add_one, hc']
          rfl
        rw [mk_list]
        refine ite2 (fun h => ?_) (fun h => ?_)
        · refine ⟨_, rfl, _, hp.1, ?_, ?_, hp.2.mut fD⟩
          · rw [List.length_map, List.length_map]
            have := List.length_filter_le (fun c => decide (c ∈ u)) (s1.take i)
            rw [List.length_take] at this
            exact sz_lt (by omega)
          · rw [upd_same, et, List.filter_append, List.map_append, List.map_append, List.filter_cons, if_pos h]
            rfl
        · rw [et, List.filter_append, List.filter_cons, if_neg h, List.filter_nil, List.append_nil]
          exact hp
      · have e0 : (mk s1).cps.size = s1.length := by simp
        obtain ⟨hp, xr⟩ := hp
        rw [e0, List.take_of_length_le (Nat.le_refl _)] at hp
        refine ⟨mk [], D, _, rfl, rfl, .inl (.inl (.inl hp)), ?_, ?_⟩
        · rw [Bx.len_signs, List.length_map, mk_len]
          have := List.length_filter_le (fun c => decide (c ∈ u)) s1
          simp
          omega
        rw [join_signs]
        have lf := List.length_filter_le (fun c => decide (c ∈ u)) s1
        refine ⟨u, s1.filter fun c => decide (c ∈ u), rfl, w3, w1.sub fun c hc => (List.mem_filter.mp hc).1, by omega, by omega, fun Hb eb => ?_⟩
        refine ⟨_, rfl, _, rfl, u, s1, rfl, w3, w1, by omega, by omega, fun Hc ec => ?_⟩
        have xs := xr.ex (eb.trans ec)
        refine ⟨rfl, _, rfl, iteNS ?_ ?_⟩
        · rw [Mx.cnt_filter s1 u (fun c => decide (c ∈ u)) fun a ha => decide_eq_true ha]
        -- short = word[:5]
        have c5 : cutS (mk u) none (some (5 : Int)) = mk (u.take 5) := cut_to u 5
        refine ⟨_, rfl, 5, rfl, mk u, rfl, by rw [mk_len]; exact sz_of (by omega), ?_⟩
        rw [c5]
        have w5 : Low (u.take 5) := w3.sub fun c hc => List.mem_of_mem_take hc
        have z5 : (u.take 5).length ≤ 5 := by rw [List.length_take]; omega
        refine ⟨_, rfl, mk (u.take 5), rfl, w5.asc, by show (u.take 5).toArray.size ≤ _; simp; omega, fun p np => ?_⟩
        have ul := Sx.uniq_len (Sx.sgs (mk (u.take 5))) []
        have sl : (Sx.sgs (mk (u.take 5))).length = (u.take 5).length := by rw [sgs_mk, List.length_map]
        rw [sl] at ul
        refine ⟨p, _, rfl, upd_same, by simp at ul ⊢; omega, _, rfl, mk (u.take 5), rfl, by rw [mk_len]; exact sz_of (by omega), rfl, _, rfl, ?_⟩
        rw [mk_len]
        refine ite2 (fun h => ?_) (fun h => ?_)
        · exact q _ (xs.ex (Ex.new np)).1
        · have h1 : (Sx.uniq [] (Sx.sgs (mk (u.take 5)))).length = (u.take 5).length := by
            refine Classical.byContradiction fun z => h ?_
            have : ¬ (V.int ((Sx.uniq [] (Sx.sgs (mk (u.take 5)))).length : Int) = V.int ((u.take 5).length : Int)) := fun e => z (by have := V.int.inj e; omega)
            rw [decide_eq_false this]
            rfl
          have nd : (u.take 5).Nodup := by
            have := (Sx.uniq_all (Sx.sgs (mk (u.take 5))) [] List.nodup_nil).mp (by rw [h1, sl]; simp)
            rw [List.nil_append, sgs_mk] at this
            unfold List.Nodup at this ⊢
            rw [List.pairwise_map] at this
            exact this.imp fun n e => n (by rw [e])
          -- each letter twice
          refine ⟨_, rfl, ⟨_, rfl⟩, _, rfl, mk s1, rfl, fun D2 nD2 => ?_⟩
          have xs2 := xs.ex (Ex.new np (o := Sx.SetT P w p (Sx.uniq [] (Sx.sgs (mk (u.take 5))))))
          have fD2 : H D2 = none := xs2.fresh nD2
          refine lc_it (walk_str (z := mk s1)) (fun i H' => H' D2 = some (.lst (((s1.take i).map fun c => [c, c]).map fun l => tx l)) ∧ Xh g H H') ⟨upd_same, xs2.mut fD2⟩ (fun _ _ _ _ => trivial) (fun i x Ha Hb hi hp y => ?_) (fun Ha hp => ?_)
          · obtain ⟨rfl, c, hc, rfl⟩ := y
            have hc' : s1[i]? = some c := by rw [← hc]; simp
            have et : s1.take (i + 1) = s1.take i ++ [c] := by
              rw [List.take_add_one, hc']
              rfl
            refine ⟨rfl, ?_⟩
            refine ⟨_, rfl, [c], 2, rfl, rfl, by show 1 * 2 ≤ 100000; decide, by decide, _, hp.1, ?_, ?_, hp.2.mut fD2⟩
            · rw [List.length_map, List.length_map, List.length_take]
              exact sz_lt (by omega)
            · rw [upd_same, et, List.map_append, List.map_append]
              rfl
          · have e0 : (mk s1).cps.size = s1.length := by simp
            rw [e0, List.take_of_length_le (Nat.le_refl _)] at hp
            have ep : (s1.map fun c => [c, c]).map (fun l => tx l) = ((s1.map fun c => [c, c]).map mk).map V.str := by
              rw [List.map_map, List.map_map, List.map_map]
              rfl
            obtain ⟨hp, xl⟩ := hp
            rw [ep] at hp
            have tl : (Mx.twice s1).length = 2 * s1.length := by
              generalize s1 = t
              induction t with
              | nil => rfl
              | cons c t ih => simp only [Mx.twice, List.length_cons, ih]; omega
            refine ⟨mk [], D2, _, rfl, rfl, .inl (.inl (.inl hp)), ?_, ?_⟩
            · have : (((s1.map fun c => [c, c]).map mk).map (·.length)).sum = 2 * s1.length := by
                clear hp ep
                generalize s1 = t
                induction t with
                | nil => rfl
                | cons c t ih =>
                  simp only [List.map_cons, List.sum_cons, List.length_cons, ih]
                  rw [mk_len]
                  simp
                  omega
              rw [this, mk_len]
              simp
              omega
            rw [join_mk, Mx.twice_flat]
            have tw : Low (Mx.twice s1) := by
              rw [← Mx.twice_flat]
              intro x hx
              obtain ⟨l, hl, hx⟩ := List.mem_flatten.mp hx
              obtain ⟨c, hc, rfl⟩ := List.mem_map.mp hl
              have : x = c := by simpa using hx
              rw [this]
              exact w1 c hc
            refine ⟨u.take 5, Mx.twice s1, rfl, w5, tw, by omega, by omega, fun Hb eb2 => ?_⟩
            refine ⟨_, rfl, mk (u.take 5), rfl, by rw [mk_len]; exact sz_of (by omega), 2, (u.take 5).length, by rw [mk_len]; rfl, by decide, by omega, ?_⟩
            refine ⟨_, rfl, _, rfl, u.take 5, s1, rfl, w5, w1, by omega, by omega, fun Hc ec2 => ?_⟩
            refine ⟨_, _, rfl, rfl, mul_ok (abs_nat (pow_lt 2 _ (by decide) (by omega))) (cnt_abs _ _ (by omega)), rfl, ?_⟩
            rw [Mx.cnt_twice s1 (u.take 5) nd, Int.natCast_mul, decide_eq_true rfl]
            exact q _ (xl.ex (eb2.trans ec2)).1
end
end K05
set_option Elab.async false
set_option linter.all false
set_option maxRecDepth 100000
set_option maxHeartbeats 8000000
namespace K05
open PySem PySem.Spec PyProof.Rows L2 Evl Bx
section
variable {P : Program} {w : World} {K : PySem.W.Frag} {mg : Str → Option Value} {base : Heap}
def sp_law (K : PySem.W.Frag) : Sp := fun vs H Q _ => ∃ (a : Addr) (ns : List Int), vs = [.ref a] ∧ SqL K H a (ns.map V.int) ∧ ns.length ≤ 63 ∧ ∀ H', Q (.bl true) H'
theorem ok_law (T : Tx K mg) : FnOk P w K mg base CX0 6 T.a_law T.fd_law ["_law_script"] (sp_law K) := by
  refine T.F_law.ok sc_law (fun vs H Q E h => ?_) (fun cdv A outer s H vs Q E hr h => ?_)
  · obtain ⟨_, _, rfl, _⟩ := h
    rfl
  · obtain ⟨a, ns, rfl, hS, hl, q⟩ := h
    refine ⟨_, (pss_cons (ps_for PassesOwn.never rfl (pi_range1 (by rfl) T.n_range (pa_cons pe_int pa_nil)) (pg_name (i := 1) sc_law.nd rfl (by first | exact Or.inl rfl | exact Or.inr rfl)) (pss_one (ps_if (pt_not (pt_val (pe_call (ok__law_right T) (hr.mono (by decide)) (by rfl) T.g__law_right T.F__law_right.kp (b__law_right T) .nil pass0 (pa_cons (pe_call (ok__law_generator T) (hr.mono (by decide)) (by rfl) T.g__law_generator T.F__law_generator.kp (b__law_generator T) .nil pass0 (pa_cons (pv 0) (pa_cons (pv 1) pa_nil))) pa_nil)))) (pss_one (ps_ret pe_bl)) pss_nil))) (pss_one (ps_ret (pe_cmpR (op_eqD hr.units) (pe_call (ok_counts T) (hr.mono (by decide)) (by rfl) T.g_counts T.F_counts.kp (b_counts T) .nil pass0 (pa_cons pe_str (pa_cons pe_int (pa_cons pe_str pa_nil)))) (pe_lst (pa_cons pe_int (pa_cons pe_int (pa_cons pe_int pa_nil)))) (nomark _))))), ?_⟩
    refine ⟨3, rfl, by decide, by decide, for_range (lo := 0) (n := 3) (fun i σ H2 => ∃ y, σ = [some (.ref a), y] ∧ Ex H H2) ⟨none, rfl, Ex.refl H⟩ (fun i σ H2 hi hp => ?_) (fun σ H2 hp => ?_)⟩
    · obtain ⟨y, rfl, e2⟩ := hp
      have e0 : (0 : Int) + (i : Nat) = (i : Nat) := Int.zero_add _
      rw [e0]
      refine ⟨_, rfl, _, rfl, a, ns, i, rfl, ex_l e2 hS, by omega, fun g H3 e3 g0 g3 => ?_⟩
      refine ⟨g, 1000 * i, rfl, g3, by omega, fun H4 x4 => ⟨true, rfl, iteF ⟨_, rfl, fun b o hb => ?_⟩⟩⟩
      have h3 := e3 b o (e2 b o hb)
      exact x4 b o (fun z => by
        have := e2 b o hb
        rw [z] at this
        rw [this] at g0
        cases g0) h3
    · obtain ⟨y, rfl, e2⟩ := hp
      -- counts('ab', 1, 'abba') == [1, 2, 2]
      refine ⟨[97, 98], 1, [97, 98, 98, 97], by rfl, ⟨?_, by decide, by decide, by decide⟩, by decide, by decide, ?_, by decide, fun H3 r e3 nr h3 => ?_⟩
      · intro c hc
        simp at hc
        omega
      · intro c hc
        simp at hc
        omega
      refine ⟨by show 3 ≤ sizeLine; decide, fun p np => ?_⟩
      have ev : (Lx.upto [97, 98] 1).map (fun u => ((Mx.cnt u [97, 98, 98, 97] : Nat) : Int)) = [1, 2, 2] := by decide
      rw [ev] at h3
      refine ⟨.list ([1, 2, 2].map .int), .list ([1, 2, 2].map .int), .lst (.inl (.inl (Ex.new np _ _ h3))) (dpAll_ints _), .lst (.inl (.inl upd_same)) (dpAll_ints [1, 2, 2]), shaped_ints _, shaped_ints _, ?_⟩
      show Q (.bl (PyData.eqvAll _ _)) _
      rw [eqvAll_ints, decide_eq_true rfl]
      exact q _
end
theorem all_mk {l : PySem.W.OpenLaw} {w : World} {K : PySem.W.Frag} {h : Heap} {mg : Str → Option Value} {fa : Addr} {f_0 f_1 f_2 f_3 f_4 f_5 f_6 f_7 f_8 f_9 f_10 f_11 f_12 f_13 f_14 f_15 f_16 f_17 f_18 f_19 f_20 f_21 f_22 f_23 : Addr} (X : K.In h) (G : h.Ns mainGlobals mg) (hfa : mg "law" = some (.ref fa))
    {od_0 an_0 : Option Addr} {sl_0 : Array (Option Value)} {oc_0 kV_0 dc_0 pm_0 cd_0 ct_0 : Value}
    (p_0 : PySem.W.nsIn K mainGlobals "is_text" = some (some (.ref f_0))) (l_0 : K.lookup f_0 = some ⟨oc_0, od_0, .func (PySem.W.fnOf "is_text" "is_text" (defArgs s_is_text) (defBody s_is_text) (defScope s_is_text) .none kV_0 dc_0 pm_0 an_0 cd_0 ct_0), sl_0⟩) (c_0 : PySem.W.codeIn K cd_0 "is_text" = true) (k_0 : PySem.W.keepIn K (.ref f_0) = true)
    {od_1 an_1 : Option Addr} {sl_1 : Array (Option Value)} {oc_1 kV_1 dc_1 pm_1 cd_1 ct_1 : Value}
    (p_1 : PySem.W.nsIn K mainGlobals "is_alphabet" = some (some (.ref f_1))) (l_1 : K.lookup f_1 = some ⟨oc_1, od_1, .func (PySem.W.fnOf "is_alphabet" "is_alphabet" (defArgs s_is_alphabet) (defBody s_is_alphabet) (defScope s_is_alphabet) .none kV_1 dc_1 pm_1 an_1 cd_1 ct_1), sl_1⟩) (c_1 : PySem.W.codeIn K cd_1 "is_alphabet" = true) (k_1 : PySem.W.keepIn K (.ref f_1) = true)
    {od_2 an_2 : Option Addr} {sl_2 : Array (Option Value)} {oc_2 kV_2 dc_2 pm_2 cd_2 ct_2 : Value}
    (p_2 : PySem.W.nsIn K mainGlobals "need_letters" = some (some (.ref f_2))) (l_2 : K.lookup f_2 = some ⟨oc_2, od_2, .func (PySem.W.fnOf "need_letters" "need_letters" (defArgs s_need_letters) (defBody s_need_letters) (defScope s_need_letters) .none kV_2 dc_2 pm_2 an_2 cd_2 ct_2), sl_2⟩) (c_2 : PySem.W.codeIn K cd_2 "need_letters" = true) (k_2 : PySem.W.keepIn K (.ref f_2) = true)
    {od_3 an_3 : Option Addr} {sl_3 : Array (Option Value)} {oc_3 kV_3 dc_3 pm_3 cd_3 ct_3 : Value}
    (p_3 : PySem.W.nsIn K mainGlobals "need_text" = some (some (.ref f_3))) (l_3 : K.lookup f_3 = some ⟨oc_3, od_3, .func (PySem.W.fnOf "need_text" "need_text" (defArgs s_need_text) (defBody s_need_text) (defScope s_need_text) .none kV_3 dc_3 pm_3 an_3 cd_3 ct_3), sl_3⟩) (c_3 : PySem.W.codeIn K cd_3 "need_text" = true) (k_3 : PySem.W.keepIn K (.ref f_3) = true)
    {od_4 an_4 : Option Addr} {sl_4 : Array (Option Value)} {oc_4 kV_4 dc_4 pm_4 cd_4 ct_4 : Value}
    (p_4 : PySem.W.nsIn K mainGlobals "how_many_words" = some (some (.ref f_4))) (l_4 : K.lookup f_4 = some ⟨oc_4, od_4, .func (PySem.W.fnOf "how_many_words" "how_many_words" (defArgs s_how_many_words) (defBody s_how_many_words) (defScope s_how_many_words) .none kV_4 dc_4 pm_4 an_4 cd_4 ct_4), sl_4⟩) (c_4 : PySem.W.codeIn K cd_4 "how_many_words" = true) (k_4 : PySem.W.keepIn K (.ref f_4) = true)
    {od_5 an_5 : Option Addr} {sl_5 : Array (Option Value)} {oc_5 kV_5 dc_5 pm_5 cd_5 ct_5 : Value}
    (p_5 : PySem.W.nsIn K mainGlobals "row_of_levels" = some (some (.ref f_5))) (l_5 : K.lookup f_5 = some ⟨oc_5, od_5, .func (PySem.W.fnOf "row_of_levels" "row_of_levels" (defArgs s_row_of_levels) (defBody s_row_of_levels) (defScope s_row_of_levels) .none kV_5 dc_5 pm_5 an_5 cd_5 ct_5), sl_5⟩) (c_5 : PySem.W.codeIn K cd_5 "row_of_levels" = true) (k_5 : PySem.W.keepIn K (.ref f_5) = true)
    {od_6 an_6 : Option Addr} {sl_6 : Array (Option Value)} {oc_6 kV_6 dc_6 pm_6 cd_6 ct_6 : Value}
    (p_6 : PySem.W.nsIn K mainGlobals "is_whole" = some (some (.ref f_6))) (l_6 : K.lookup f_6 = some ⟨oc_6, od_6, .func (PySem.W.fnOf "is_whole" "is_whole" (defArgs s_is_whole) (defBody s_is_whole) (defScope s_is_whole) .none kV_6 dc_6 pm_6 an_6 cd_6 ct_6), sl_6⟩) (c_6 : PySem.W.codeIn K cd_6 "is_whole" = true) (k_6 : PySem.W.keepIn K (.ref f_6) = true)
    {od_7 an_7 : Option Addr} {sl_7 : Array (Option Value)} {oc_7 kV_7 dc_7 pm_7 cd_7 ct_7 : Value}
    (p_7 : PySem.W.nsIn K mainGlobals "is_from_to" = some (some (.ref f_7))) (l_7 : K.lookup f_7 = some ⟨oc_7, od_7, .func (PySem.W.fnOf "is_from_to" "is_from_to" (defArgs s_is_from_to) (defBody s_is_from_to) (defScope s_is_from_to) .none kV_7 dc_7 pm_7 an_7 cd_7 ct_7), sl_7⟩) (c_7 : PySem.W.codeIn K cd_7 "is_from_to" = true) (k_7 : PySem.W.keepIn K (.ref f_7) = true)
    {od_8 an_8 : Option Addr} {sl_8 : Array (Option Value)} {oc_8 kV_8 dc_8 pm_8 cd_8 ct_8 : Value}
    (p_8 : PySem.W.nsIn K mainGlobals "_put_behind" = some (some (.ref f_8))) (l_8 : K.lookup f_8 = some ⟨oc_8, od_8, .func (PySem.W.fnOf "_put_behind" "_put_behind" (defArgs s__put_behind) (defBody s__put_behind) (defScope s__put_behind) .none kV_8 dc_8 pm_8 an_8 cd_8 ct_8), sl_8⟩) (c_8 : PySem.W.codeIn K cd_8 "_put_behind" = true) (k_8 : PySem.W.keepIn K (.ref f_8) = true)
    {od_9 an_9 : Option Addr} {sl_9 : Array (Option Value)} {oc_9 kV_9 dc_9 pm_9 cd_9 ct_9 : Value}
    (p_9 : PySem.W.nsIn K mainGlobals "levels_of_signs" = some (some (.ref f_9))) (l_9 : K.lookup f_9 = some ⟨oc_9, od_9, .func (PySem.W.fnOf "levels_of_signs" "levels_of_signs" (defArgs s_levels_of_signs) (defBody s_levels_of_signs) (defScope s_levels_of_signs) .none kV_9 dc_9 pm_9 an_9 cd_9 ct_9), sl_9⟩) (c_9 : PySem.W.codeIn K cd_9 "levels_of_signs" = true) (k_9 : PySem.W.keepIn K (.ref f_9) = true)
    {od_10 an_10 : Option Addr} {sl_10 : Array (Option Value)} {oc_10 kV_10 dc_10 pm_10 cd_10 ct_10 : Value}
    (p_10 : PySem.W.nsIn K mainGlobals "counts" = some (some (.ref f_10))) (l_10 : K.lookup f_10 = some ⟨oc_10, od_10, .func (PySem.W.fnOf "counts" "counts" (defArgs s_counts) (defBody s_counts) (defScope s_counts) .none kV_10 dc_10 pm_10 an_10 cd_10 ct_10), sl_10⟩) (c_10 : PySem.W.codeIn K cd_10 "counts" = true) (k_10 : PySem.W.keepIn K (.ref f_10) = true)
    {od_11 an_11 : Option Addr} {sl_11 : Array (Option Value)} {oc_11 kV_11 dc_11 pm_11 cd_11 ct_11 : Value}
    (p_11 : PySem.W.nsIn K mainGlobals "_law_hash" = some (some (.ref f_11))) (l_11 : K.lookup f_11 = some ⟨oc_11, od_11, .func (PySem.W.fnOf "_law_hash" "_law_hash" (defArgs s__law_hash) (defBody s__law_hash) (defScope s__law_hash) .none kV_11 dc_11 pm_11 an_11 cd_11 ct_11), sl_11⟩) (c_11 : PySem.W.codeIn K cd_11 "_law_hash" = true) (k_11 : PySem.W.keepIn K (.ref f_11) = true)
    {od_12 an_12 : Option Addr} {sl_12 : Array (Option Value)} {oc_12 kV_12 dc_12 pm_12 cd_12 ct_12 : Value}
    (p_12 : PySem.W.nsIn K mainGlobals "_law_random" = some (some (.ref f_12))) (l_12 : K.lookup f_12 = some ⟨oc_12, od_12, .func (PySem.W.fnOf "_law_random" "_law_random" (defArgs s__law_random) (defBody s__law_random) (defScope s__law_random) .none kV_12 dc_12 pm_12 an_12 cd_12 ct_12), sl_12⟩) (c_12 : PySem.W.codeIn K cd_12 "_law_random" = true) (k_12 : PySem.W.keepIn K (.ref f_12) = true)
    {od_13 an_13 : Option Addr} {sl_13 : Array (Option Value)} {oc_13 kV_13 dc_13 pm_13 cd_13 ct_13 : Value}
    (p_13 : PySem.W.nsIn K mainGlobals "_law_alphabet" = some (some (.ref f_13))) (l_13 : K.lookup f_13 = some ⟨oc_13, od_13, .func (PySem.W.fnOf "_law_alphabet" "_law_alphabet" (defArgs s__law_alphabet) (defBody s__law_alphabet) (defScope s__law_alphabet) .none kV_13 dc_13 pm_13 an_13 cd_13 ct_13), sl_13⟩) (c_13 : PySem.W.codeIn K cd_13 "_law_alphabet" = true) (k_13 : PySem.W.keepIn K (.ref f_13) = true)
    {od_14 an_14 : Option Addr} {sl_14 : Array (Option Value)} {oc_14 kV_14 dc_14 pm_14 cd_14 ct_14 : Value}
    (p_14 : PySem.W.nsIn K mainGlobals "_law_text" = some (some (.ref f_14))) (l_14 : K.lookup f_14 = some ⟨oc_14, od_14, .func (PySem.W.fnOf "_law_text" "_law_text" (defArgs s__law_text) (defBody s__law_text) (defScope s__law_text) .none kV_14 dc_14 pm_14 an_14 cd_14 ct_14), sl_14⟩) (c_14 : PySem.W.codeIn K cd_14 "_law_text" = true) (k_14 : PySem.W.keepIn K (.ref f_14) = true)
    {od_15 an_15 : Option Addr} {sl_15 : Array (Option Value)} {oc_15 kV_15 dc_15 pm_15 cd_15 ct_15 : Value}
    (p_15 : PySem.W.nsIn K mainGlobals "need_word" = some (some (.ref f_15))) (l_15 : K.lookup f_15 = some ⟨oc_15, od_15, .func (PySem.W.fnOf "need_word" "need_word" (defArgs s_need_word) (defBody s_need_word) (defScope s_need_word) .none kV_15 dc_15 pm_15 an_15 cd_15 ct_15), sl_15⟩) (c_15 : PySem.W.codeIn K cd_15 "need_word" = true) (k_15 : PySem.W.keepIn K (.ref f_15) = true)
    {od_16 an_16 : Option Addr} {sl_16 : Array (Option Value)} {oc_16 kV_16 dc_16 pm_16 cd_16 ct_16 : Value}
    (p_16 : PySem.W.nsIn K mainGlobals "count" = some (some (.ref f_16))) (l_16 : K.lookup f_16 = some ⟨oc_16, od_16, .func (PySem.W.fnOf "count" "count" (defArgs s_count) (defBody s_count) (defScope s_count) .none kV_16 dc_16 pm_16 an_16 cd_16 ct_16), sl_16⟩) (c_16 : PySem.W.codeIn K cd_16 "count" = true) (k_16 : PySem.W.keepIn K (.ref f_16) = true)
    {od_17 an_17 : Option Addr} {sl_17 : Array (Option Value)} {oc_17 kV_17 dc_17 pm_17 cd_17 ct_17 : Value}
    (p_17 : PySem.W.nsIn K mainGlobals "_law_count" = some (some (.ref f_17))) (l_17 : K.lookup f_17 = some ⟨oc_17, od_17, .func (PySem.W.fnOf "_law_count" "_law_count" (defArgs s__law_count) (defBody s__law_count) (defScope s__law_count) .none kV_17 dc_17 pm_17 an_17 cd_17 ct_17), sl_17⟩) (c_17 : PySem.W.codeIn K cd_17 "_law_count" = true) (k_17 : PySem.W.keepIn K (.ref f_17) = true)
    {od_18 an_18 : Option Addr} {sl_18 : Array (Option Value)} {oc_18 kV_18 dc_18 pm_18 cd_18 ct_18 : Value}
    (p_18 : PySem.W.nsIn K mainGlobals "_law_cut_sum" = some (some (.ref f_18))) (l_18 : K.lookup f_18 = some ⟨oc_18, od_18, .func (PySem.W.fnOf "_law_cut_sum" "_law_cut_sum" (defArgs s__law_cut_sum) (defBody s__law_cut_sum) (defScope s__law_cut_sum) .none kV_18 dc_18 pm_18 an_18 cd_18 ct_18), sl_18⟩) (c_18 : PySem.W.codeIn K cd_18 "_law_cut_sum" = true) (k_18 : PySem.W.keepIn K (.ref f_18) = true)
    {od_19 an_19 : Option Addr} {sl_19 : Array (Option Value)} {oc_19 kV_19 dc_19 pm_19 cd_19 ct_19 : Value}
    (p_19 : PySem.W.nsIn K mainGlobals "_law_grown" = some (some (.ref f_19))) (l_19 : K.lookup f_19 = some ⟨oc_19, od_19, .func (PySem.W.fnOf "_law_grown" "_law_grown" (defArgs s__law_grown) (defBody s__law_grown) (defScope s__law_grown) .none kV_19 dc_19 pm_19 an_19 cd_19 ct_19), sl_19⟩) (c_19 : PySem.W.codeIn K cd_19 "_law_grown" = true) (k_19 : PySem.W.keepIn K (.ref f_19) = true)
    {od_20 an_20 : Option Addr} {sl_20 : Array (Option Value)} {oc_20 kV_20 dc_20 pm_20 cd_20 ct_20 : Value}
    (p_20 : PySem.W.nsIn K mainGlobals "_law_right" = some (some (.ref f_20))) (l_20 : K.lookup f_20 = some ⟨oc_20, od_20, .func (PySem.W.fnOf "_law_right" "_law_right" (defArgs s__law_right) (defBody s__law_right) (defScope s__law_right) .none kV_20 dc_20 pm_20 an_20 cd_20 ct_20), sl_20⟩) (c_20 : PySem.W.codeIn K cd_20 "_law_right" = true) (k_20 : PySem.W.keepIn K (.ref f_20) = true)
    {od_21 an_21 : Option Addr} {sl_21 : Array (Option Value)} {oc_21 kV_21 dc_21 pm_21 cd_21 ct_21 : Value}
    (p_21 : PySem.W.nsIn K mainGlobals "_law_cell" = some (some (.ref f_21))) (l_21 : K.lookup f_21 = some ⟨oc_21, od_21, .func (PySem.W.fnOf "_law_cell" "_law_cell" (defArgs s__law_cell) (defBody s__law_cell) (defScope s__law_cell) .none kV_21 dc_21 pm_21 an_21 cd_21 ct_21), sl_21⟩) (c_21 : PySem.W.codeIn K cd_21 "_law_cell" = true) (k_21 : PySem.W.keepIn K (.ref f_21) = true)
    {od_22 an_22 : Option Addr} {sl_22 : Array (Option Value)} {oc_22 kV_22 dc_22 pm_22 cd_22 ct_22 : Value}
    (p_22 : PySem.W.nsIn K mainGlobals "_law_generator" = some (some (.ref f_22))) (l_22 : K.lookup f_22 = some ⟨oc_22, od_22, .func (PySem.W.fnOf "_law_generator" "_law_generator" (defArgs s__law_generator) (defBody s__law_generator) (defScope s__law_generator) .none kV_22 dc_22 pm_22 an_22 cd_22 ct_22), sl_22⟩) (c_22 : PySem.W.codeIn K cd_22 "_law_generator" = true) (k_22 : PySem.W.keepIn K (.ref f_22) = true)
    {od_23 an_23 : Option Addr} {sl_23 : Array (Option Value)} {oc_23 kV_23 dc_23 pm_23 cd_23 ct_23 : Value}
    (p_23 : PySem.W.nsIn K mainGlobals "law" = some (some (.ref f_23))) (l_23 : K.lookup f_23 = some ⟨oc_23, od_23, .func (PySem.W.fnOf "law" "law" (defArgs s_law) (defBody s_law) (defScope s_law) .none kV_23 dc_23 pm_23 an_23 cd_23 ct_23), sl_23⟩) (c_23 : PySem.W.codeIn K cd_23 "law" = true) (k_23 : PySem.W.keepIn K (.ref f_23) = true)
    (z_0 : PySem.W.nsIn K mainGlobals "isinstance" = some none)
    (z_1 : PySem.W.nsIn K mainGlobals "str" = some none)
    (z_2 : PySem.W.nsIn K mainGlobals "list" = some none)
    (z_3 : PySem.W.nsIn K mainGlobals "sorted" = some none)
    (z_4 : PySem.W.nsIn K mainGlobals "set" = some none)
    (z_5 : PySem.W.nsIn K mainGlobals "len" = some none)
    (z_6 : PySem.W.nsIn K mainGlobals "range" = some none)
    (z_7 : PySem.W.nsIn K mainGlobals "int" = some none)
    (z_8 : PySem.W.nsIn K mainGlobals "bool" = some none)
    (z_9 : PySem.W.nsIn K mainGlobals "enumerate" = some none)
    (z_10 : PySem.W.nsIn K mainGlobals "reversed" = some none)
    (z_11 : PySem.W.nsIn K mainGlobals "sum" = some none)
    (z_12 : PySem.W.nsIn K mainGlobals "max" = some none)
    {t_0 : Tok} (y_0 : PySem.W.nsIn K mainGlobals "MOST_IN_ALPHABET" = some (some (.int 4 t_0)))
    {t_1 : Tok} (y_1 : PySem.W.nsIn K mainGlobals "MOST_WORDS" = some (some (.int 400 t_1)))
    {t_2 : Tok} (y_2 : PySem.W.nsIn K mainGlobals "MOST_DEPTH" = some (some (.int 12 t_2)))
    : ∃ fd : FuncData, (∀ (s : Shared) (v : Value), BindsTo s fd ⟨[v], []⟩ [("_law_script", v)]) ∧ ∀ base : Heap, K.In base → base.Ns mainGlobals mg → FnOk l.prog w K mg base CX0 6 fa fd ["_law_script"] (sp_law K) := by
  have e := hfa.symm.trans (PySem.W.mg_of X G p_23)
  cases e
  have F_0 := fun_mk (st := s_is_text) l_0 c_0 k_0
  have F_1 := fun_mk (st := s_is_alphabet) l_1 c_1 k_1
  have F_2 := fun_mk (st := s_need_letters) l_2 c_2 k_2
  have F_3 := fun_mk (st := s_need_text) l_3 c_3 k_3
  have F_4 := fun_mk (st := s_how_many_words) l_4 c_4 k_4
  have F_5 := fun_mk (st := s_row_of_levels) l_5 c_5 k_5
  have F_6 := fun_mk (st := s_is_whole) l_6 c_6 k_6
  have F_7 := fun_mk (st := s_is_from_to) l_7 c_7 k_7
  have F_8 := fun_mk (st := s__put_behind) l_8 c_8 k_8
  have F_9 := fun_mk (st := s_levels_of_signs) l_9 c_9 k_9
  have F_10 := fun_mk (st := s_counts) l_10 c_10 k_10
  have F_11 := fun_mk (st := s__law_hash) l_11 c_11 k_11
  have F_12 := fun_mk (st := s__law_random) l_12 c_12 k_12
  have F_13 := fun_mk (st := s__law_alphabet) l_13 c_13 k_13
  have F_14 := fun_mk (st := s__law_text) l_14 c_14 k_14
  have F_15 := fun_mk (st := s_need_word) l_15 c_15 k_15
  have F_16 := fun_mk (st := s_count) l_16 c_16 k_16
  have F_17 := fun_mk (st := s__law_count) l_17 c_17 k_17
  have F_18 := fun_mk (st := s__law_cut_sum) l_18 c_18 k_18
  have F_19 := fun_mk (st := s__law_grown) l_19 c_19 k_19
  have F_20 := fun_mk (st := s__law_right) l_20 c_20 k_20
  have F_21 := fun_mk (st := s__law_cell) l_21 c_21 k_21
  have F_22 := fun_mk (st := s__law_generator) l_22 c_22 k_22
  have F_23 := fun_mk (st := s_law) l_23 c_23 k_23
  let T : Tx K mg := ⟨_, _, F_0, PySem.W.mg_of X G p_0, _, _, F_1, PySem.W.mg_of X G p_1, _, _, F_2, PySem.W.mg_of X G p_2, _, _, F_3, PySem.W.mg_of X G p_3, _, _, F_4, PySem.W.mg_of X G p_4, _, _, F_5, PySem.W.mg_of X G p_5, _, _, F_6, PySem.W.mg_of X G p_6, _, _, F_7, PySem.W.mg_of X G p_7, _, _, F_8, PySem.W.mg_of X G p_8, _, _, F_9, PySem.W.mg_of X G p_9, _, _, F_10, PySem.W.mg_of X G p_10, _, _, F_11, PySem.W.mg_of X G p_11, _, _, F_12, PySem.W.mg_of X G p_12, _, _, F_13, PySem.W.mg_of X G p_13, _, _, F_14, PySem.W.mg_of X G p_14, _, _, F_15, PySem.W.mg_of X G p_15, _, _, F_16, PySem.W.mg_of X G p_16, _, _, F_17, PySem.W.mg_of X G p_17, _, _, F_18, PySem.W.mg_of X G p_18, _, _, F_19, PySem.W.mg_of X G p_19, _, _, F_20, PySem.W.mg_of X G p_20, _, _, F_21, PySem.W.mg_of X G p_21, _, _, F_22, PySem.W.mg_of X G p_22, _, _, F_23, PySem.W.mg_of X G p_23, PySem.W.mg_none_of X G z_0, PySem.W.mg_none_of X G z_1, PySem.W.mg_none_of X G z_2, PySem.W.mg_none_of X G z_3, PySem.W.mg_none_of X G z_4, PySem.W.mg_none_of X G z_5, PySem.W.mg_none_of X G z_6, PySem.W.mg_none_of X G z_7, PySem.W.mg_none_of X G z_8, PySem.W.mg_none_of X G z_9, PySem.W.mg_none_of X G z_10, PySem.W.mg_none_of X G z_11, PySem.W.mg_none_of X G z_12, t_0, PySem.W.mg_of X G y_0, t_1, PySem.W.mg_of X G y_1, t_2, PySem.W.mg_of X G y_2⟩
  exact ⟨PySem.W.fnOf "law" "law" (defArgs s_law) (defBody s_law) (defScope s_law) .none kV_23 dc_23 pm_23 an_23 cd_23 ct_23, fun s v => .of_eq rfl, fun base _ _ => ok_law T⟩
end K05
open PySem PySem.W PyProof.Rows
set_option maxRecDepth 100000 in
set_option maxHeartbeats 0 in
theorem PySem.Challenge.cw_skipcounts_k05_whole_counts_of_joined_te_holds : PySem.Challenge.rw_skipcounts_k05_whole_counts_of_joined_te.Holds := by
  w_on; o_law; k_head; (case hw => w_witness2)
  k_fill
  refine L2.walk_of (l := PySem.Challenge.rw_skipcounts_k05_whole_counts_of_joined_te) (n := 63) (k := 6) (x := "_law_script") (CX := fun _ => L2.CX0) (sp := fun w => K05.sp_law _) rfl (by decide) rfl ⟨rfl, by decide, by decide⟩ (fun w h Y => PySem.W.kIn_of Y) ?F (fun _ _ a ns hl _ hS => ⟨a, ns, rfl, hS, hl, fun _ => rfl⟩) (fun _ _ _ _ _ h => h)
  case F =>
    intro w mg fa h KX G hmg
    refine' K05.all_mk KX G hmg ?p_0 ?l_0 ?c_0 ?k_0 ?p_1 ?l_1 ?c_1 ?k_1 ?p_2 ?l_2 ?c_2 ?k_2 ?p_3 ?l_3 ?c_3 ?k_3 ?p_4 ?l_4 ?c_4 ?k_4 ?p_5 ?l_5 ?c_5 ?k_5 ?p_6 ?l_6 ?c_6 ?k_6 ?p_7 ?l_7 ?c_7 ?k_7 ?p_8 ?l_8 ?c_8 ?k_8 ?p_9 ?l_9 ?c_9 ?k_9 ?p_10 ?l_10 ?c_10 ?k_10 ?p_11 ?l_11 ?c_11 ?k_11 ?p_12 ?l_12 ?c_12 ?k_12 ?p_13 ?l_13 ?c_13 ?k_13 ?p_14 ?l_14 ?c_14 ?k_14 ?p_15 ?l_15 ?c_15 ?k_15 ?p_16 ?l_16 ?c_16 ?k_16 ?p_17 ?l_17 ?c_17 ?k_17 ?p_18 ?l_18 ?c_18 ?k_18 ?p_19 ?l_19 ?c_19 ?k_19 ?p_20 ?l_20 ?c_20 ?k_20 ?p_21 ?l_21 ?c_21 ?k_21 ?p_22 ?l_22 ?c_22 ?k_22 ?p_23 ?l_23 ?c_23 ?k_23 ?z_0 ?z_1 ?z_2 ?z_3 ?z_4 ?z_5 ?z_6 ?z_7 ?z_8 ?z_9 ?z_10 ?z_11 ?z_12 ?y_0 ?y_1 ?y_2
    (case p_0 => k_is)
    (case l_0 => k_is)
    (case c_0 => k_is)
    (case k_0 => k_is)
    (case p_1 => k_is)
    (case l_1 => k_is)
    (case c_1 => k_is)
    (case k_1 => k_is)
    (case p_2 => k_is)
    (case l_2 => k_is)
    (case c_2 => k_is)
    (case k_2 => k_is)
    (case p_3 => k_is)
    (case l_3 => k_is)
    (case c_3 => k_is)
    (case k_3 => k_is)
    (case p_4 => k_is)
    (case l_4 => k_is)
    (case c_4 => k_is)
    (case k_4 => k_is)
    (case p_5 => k_is)
    (case l_5 => k_is)
    (case c_5 => k_is)
    (case k_5 => k_is)
    (case p_6 => k_is)
    (case l_6 => k_is)
    (case c_6 => k_is)
    (case k_6 => k_is)
    (case p_7 => k_is)
    (case l_7 => k_is)
    (case c_7 => k_is)
    (case k_7 => k_is)
    (case p_8 => k_is)
    (case l_8 => k_is)
    (case c_8 => k_is)
    (case k_8 => k_is)
    (case p_9 => k_is)
    (case l_9 => k_is)
    (case c_9 => k_is)
    (case k_9 => k_is)
    (case p_10 => k_is)
    (case l_10 => k_is)
    (case c_10 => k_is)
    (case k_10 => k_is)
    (case p_11 => k_is)
    (case l_11 => k_is)
    (case c_11 => k_is)
    (case k_11 => k_is)
    (case p_12 => k_is)
    (case l_12 => k_is)
    (case c_12 => k_is)
    (case k_12 => k_is)
    (case p_13 => k_is)
    (case l_13 => k_is)
    (case c_13 => k_is)
    (case k_13 => k_is)
    (case p_14 => k_is)
    (case l_14 => k_is)
    (case c_14 => k_is)
    (case k_14 => k_is)
    (case p_15 => k_is)
    (case l_15 => k_is)
    (case c_15 => k_is)
    (case k_15 => k_is)
    (case p_16 => k_is)
    (case l_16 => k_is)
    (case c_16 => k_is)
    (case k_16 => k_is)
    (case p_17 => k_is)
    (case l_17 => k_is)
    (case c_17 => k_is)
    (case k_17 => k_is)
    (case p_18 => k_is)
    (case l_18 => k_is)
    (case c_18 => k_is)
    (case k_18 => k_is)
    (case p_19 => k_is)
    (case l_19 => k_is)
    (case c_19 => k_is)
    (case k_19 => k_is)
    (case p_20 => k_is)
    (case l_20 => k_is)
    (case c_20 => k_is)
    (case k_20 => k_is)
    (case p_21 => k_is)
    (case l_21 => k_is)
    (case c_21 => k_is)
    (case k_21 => k_is)
    (case p_22 => k_is)
    (case l_22 => k_is)
    (case c_22 => k_is)
    (case k_22 => k_is)
    (case p_23 => k_is)
    (case l_23 => k_is)
    (case c_23 => k_is)
    (case k_23 => k_is)
    (case z_0 => k_is)
    (case z_1 => k_is)
    (case z_2 => k_is)
    (case z_3 => k_is)
    (case z_4 => k_is)
    (case z_5 => k_is)
    (case z_6 => k_is)
    (case z_7 => k_is)
    (case z_8 => k_is)
    (case z_9 => k_is)
    (case z_10 => k_is)
    (case z_11 => k_is)
    (case z_12 => k_is)
    (case y_0 => k_is)
    (case y_1 => k_is)
    (case y_2 => k_is)
